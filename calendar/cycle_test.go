package calendar

import (
	"math"
	"testing"

	"pentaglot/api"
)

func TestCycleDates(t *testing.T) { // P17.4
	checkDates(t, map[int]api.Date{
		0: cycle(0, 1, 0), 1: cycle(0, 2, 1), 12: cycle(0, 13, 12), 13: cycle(0, 1, 13), 19: cycle(0, 7, 19), 20: cycle(0, 8, 0), 259: cycle(0, 13, 19),
		260: cycle(1, 1, 0), 261: cycle(1, 2, 1), 519: cycle(1, 13, 19), 520: cycle(2, 1, 0), api.MaxDay: cycle(3846, 1, 19),
	}, CycleDate, CycleDay)
}

func TestAllCycleDates(t *testing.T) { // P17.4, P17.7
	d := checkAllDates(t, cycle(0, 1, 0), afterCycle, CycleDate, CycleDay)
	for d.Year < 3849 {
		if n, e := CycleDay(d); n != 0 || e != api.ErrTooLarge {
			t.Fatalf("CycleDay(%v): %d, %d", d, n, e)
		}
		d = afterCycle(d)
	}
}

func TestCycleDayErrors(t *testing.T) { // P17.4, P1
	for name, d := range map[string]api.Date{
		"the zero date":                   {},
		"no calendar":                     {Year: 1, Month: 1, Day: 1},
		"a solar date":                    solar(1, 1, 1),
		"lunisolar":                       {Calendar: api.Lunisolar, Year: 1, Month: 1, Day: 1},
		"calendar 4":                      {Calendar: 4, Year: 1, Month: 1, Day: 1},
		"a negative calendar":             {Calendar: -3, Year: 1, Month: 1, Day: 1},
		"Leap":                            {Calendar: api.Cycle, Year: 1, Month: 1, Day: 1, Leap: true},
		"Leap, too great":                 {Calendar: api.Cycle, Year: math.MaxInt, Month: 1, Day: 1, Leap: true},
		"round -1":                        cycle(-1, 1, 0),
		"the least round":                 cycle(math.MinInt, 1, 0),
		"number 0":                        cycle(1, 0, 0),
		"number 14":                       cycle(1, 14, 0),
		"number -1":                       cycle(1, -1, 0),
		"the least number":                cycle(1, math.MinInt, 0),
		"the greatest number":             cycle(1, math.MaxInt, 0),
		"name -1":                         cycle(1, 1, -1),
		"name 20":                         cycle(1, 1, 20),
		"the least name":                  cycle(1, 1, math.MinInt),
		"the greatest name":               cycle(1, 1, math.MaxInt),
		"number 0 in a round too great":   cycle(math.MaxInt, 0, 0),
		"number 14 in a round too great":  cycle(3847, 14, 0),
		"name -1 in a round too great":    cycle(3847, 1, -1),
		"name 20 in a round too great":    cycle(math.MaxInt, 1, 20),
		"number 14 in the last round":     cycle(3846, 14, 19),
		"another calendar, too great":     {Calendar: api.Solar, Year: math.MaxInt, Month: 1, Day: 1},
		"a solar date in a round too big": solar(3847, 1, 1),
	} {
		if n, e := CycleDay(d); n != 0 || e != api.ErrArgument {
			t.Errorf("%s: %d, %d", name, n, e)
		}
	}
	for _, d := range []api.Date{cycle(3846, 2, 0), cycle(3846, 13, 19), cycle(3847, 1, 0), cycle(3847, 13, 19), cycle(1<<40, 1, 0), cycle(1<<60, 13, 0), cycle(math.MaxInt/260, 13, 19), cycle(math.MaxInt/260+1, 1, 0), cycle(math.MaxInt/13, 1, 0), cycle(math.MaxInt-1, 1, 0), cycle(math.MaxInt, 13, 19)} {
		if n, e := CycleDay(d); n != 0 || e != api.ErrTooLarge {
			t.Errorf("CycleDay(%v): %d, %d", d, n, e)
		}
	}
}

func TestNext(t *testing.T) { // P17.5
	for _, c := range []struct{ number, name, after, want int }{
		{1, 0, -1, 0}, {1, 0, 0, 260}, {1, 0, 1, 260}, {1, 0, 258, 260}, {1, 0, 259, 260}, {1, 0, 260, 520},
		{8, 0, -1, 20}, {8, 0, 19, 20}, {8, 0, 20, 280}, {1, 13, 12, 13}, {13, 19, -1, 259}, {13, 19, 258, 259}, {13, 19, 259, 519},
		{1, 19, api.MaxDay - 1, api.MaxDay}, {1, 19, api.MaxDay - 260, api.MaxDay}, {1, 19, api.MaxDay - 261, api.MaxDay - 260}, {13, 18, api.MaxDay - 2, api.MaxDay - 1},
	} {
		if n, e := Next(c.number, c.name, c.after); n != c.want || e != api.OK {
			t.Errorf("Next(%d, %d, %d): %d, %d, not %d", c.number, c.name, c.after, n, e, c.want)
		}
	}
}

// TestNextPairs tries every pair with days before, at and behind its own in several rounds.
func TestNextPairs(t *testing.T) { // P17.5
	d := cycle(0, 1, 0)
	found := map[[2]int]bool{}
	for first := range 260 {
		pair := [2]int{d.Month, d.Day}
		if found[pair] {
			t.Fatalf("%v comes twice", pair)
		}
		found[pair] = true
		for after := -1; after < 600; after += 7 {
			checkNext(t, pair, first, after)
		}
		for _, near := range []int{first - 1, first, first + 1, first + 259, first + 260, first + 261} {
			checkNext(t, pair, first, near)
		}
		for after := api.MaxDay - 270; after <= api.MaxDay+2; after += 3 {
			checkNext(t, pair, first, after)
		}
		checkNext(t, pair, first, api.MaxDay)
		d = afterCycle(d)
	}
}

// checkNext compares Next with the first day of a pair and those that follow it after each 260 days.
func checkNext(t *testing.T, pair [2]int, first, after int) {
	want, wantError := first, api.Errno(api.OK)
	for want <= after {
		want += 260
	}
	if want > api.MaxDay {
		want, wantError = 0, api.ErrTooLarge
	}
	if n, e := Next(pair[0], pair[1], after); n != want || e != wantError {
		t.Fatalf("Next(%d, %d, %d): %d, %d, not %d", pair[0], pair[1], after, n, e, want)
	}
}

func TestNextErrors(t *testing.T) { // P17.5, P1
	for _, c := range [][3]int{
		{0, 0, 0}, {14, 0, 0}, {-1, 0, 0}, {math.MinInt, 0, 0}, {math.MaxInt, 0, 0},
		{1, -1, 0}, {1, 20, 0}, {1, math.MinInt, 0}, {1, math.MaxInt, 0},
		{1, 0, -2}, {1, 0, -260}, {1, 0, math.MinInt}, {0, 20, -2},
		{0, 0, api.MaxDay}, {14, 0, math.MaxInt}, {1, -1, math.MaxInt}, {1, 20, api.MaxDay + 1},
	} {
		if n, e := Next(c[0], c[1], c[2]); n != 0 || e != api.ErrArgument {
			t.Errorf("Next%v: %d, %d", c, n, e)
		}
	}
	for _, c := range [][3]int{
		{1, 19, api.MaxDay}, {2, 0, api.MaxDay - 1}, {2, 0, api.MaxDay}, {1, 0, api.MaxDay}, {13, 18, api.MaxDay - 1}, {2, 0, api.MaxDay - 259},
		{1, 0, api.MaxDay + 1}, {1, 0, 1 << 40}, {1, 0, math.MaxInt - 260}, {1, 0, math.MaxInt - 1}, {13, 19, math.MaxInt},
	} {
		if n, e := Next(c[0], c[1], c[2]); n != 0 || e != api.ErrTooLarge {
			t.Errorf("Next%v: %d, %d", c, n, e)
		}
	}
}
