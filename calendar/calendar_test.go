package calendar

import (
	"math"
	"math/rand"
	"testing"

	"pentaglot/api"
)

// years are the years that the document and its rules set apart, and those near the limits.
var years = []int{math.MinInt, math.MinInt + 4, -1024, -128, -5, -4, -3, -1, 0, 1, 2, 3, 4, 5, 6, 7, 8, 9, 99, 100, 104, 123, 124, 125, 127, 128, 129, 130, 132, 255, 256, 257, 260, 383, 384, 385, 388, 400, 512, 2736, 2737, 2738, 2739, 2740, 2741, 2816, 1 << 20, 1<<20 + 4, math.MaxInt - 127, math.MaxInt - 3, math.MaxInt - 1, math.MaxInt}

func TestLeap(t *testing.T) { // P17.1
	for year, want := range map[int]bool{-128: false, -8: false, -4: false, -1: false, 0: false, 1: false, 2: false, 3: false, 4: true, 5: false, 100: true, 124: true, 127: false, 128: false, 129: false, 132: true, 256: false, 384: false, 400: true, 512: false} {
		if Leap(year) != want {
			t.Errorf("Leap(%d): not %t", year, want)
		}
	}
	for _, year := range years {
		if Leap(year) != leapBy(year) {
			t.Errorf("Leap(%d): not %t", year, leapBy(year))
		}
	}
	for year := -1000; year <= 5000; year++ {
		if Leap(year) != leapBy(year) {
			t.Errorf("Leap(%d): not %t", year, leapBy(year))
		}
	}
}

func TestMonthDays(t *testing.T) { // P17.1
	for month, want := range []int{0, 31, 30, 31, 30, 31, 30, 31, 30, 31, 30, 31, 29, 0} {
		if n := MonthDays(1, month); n != want {
			t.Errorf("MonthDays(1, %d): %d, not %d", month, n, want)
		}
	}
	months := []int{math.MinInt, -12, -1, 0, 1, 2, 3, 4, 5, 6, 7, 8, 9, 10, 11, 12, 13, 14, 24, math.MaxInt}
	for _, year := range years {
		for _, month := range months {
			if n, want := MonthDays(year, month), monthDaysBy(year, month); n != want {
				t.Errorf("MonthDays(%d, %d): %d, not %d", year, month, n, want)
			}
		}
	}
}

func TestYearStart(t *testing.T) { // P17.2
	day := 0
	for year := 0; day <= api.MaxDay; year++ {
		if n, e := YearStart(year); n != day || e != api.OK {
			t.Fatalf("YearStart(%d): %d, %d, not %d", year, n, e, day)
		}
		for month := 1; month <= 12; month++ {
			day += monthDaysBy(year, month)
		}
	}
	for year, want := range map[int]int{0: 0, 1: 365, 3: 1095, 4: 1460, 5: 1826, 127: 46386, 128: 46751, 129: 47116, 256: 93502} {
		if n, e := YearStart(year); n != want || e != api.OK {
			t.Errorf("YearStart(%d): %d, %d, not %d", year, n, e, want)
		}
	}
}

func TestYearStartErrors(t *testing.T) { // P17.2, P1
	last := 0 // the last year that begins up to MaxDay, by the definition
	for day := 0; day <= api.MaxDay; last++ {
		day += 365
		if leapBy(last) {
			day++
		}
	}
	last--
	if n, e := YearStart(last); n != api.MaxDay-331 || e != api.OK {
		t.Errorf("YearStart(%d): %d, %d", last, n, e)
	}
	for _, year := range []int{last + 1, last + 2, 2739, 2740, 2741, 1 << 20, 1 << 40, math.MaxInt / 365, math.MaxInt/365 + 1, math.MaxInt/4 + 1, math.MaxInt - 126, math.MaxInt - 2, math.MaxInt} {
		if n, e := YearStart(year); n != 0 || e != api.ErrTooLarge {
			t.Errorf("YearStart(%d): %d, %d", year, n, e)
		}
	}
	for _, year := range []int{-1, -4, -128, -1 << 40, math.MinInt} {
		if n, e := YearStart(year); n != 0 || e != api.ErrArgument {
			t.Errorf("YearStart(%d): %d, %d", year, n, e)
		}
	}
}

func TestSolarDates(t *testing.T) { // P17.3
	checkDates(t, map[int]api.Date{
		0: solar(0, 1, 1), 30: solar(0, 1, 31), 31: solar(0, 2, 1), 60: solar(0, 2, 30), 61: solar(0, 3, 1), 335: solar(0, 11, 31), 336: solar(0, 12, 1),
		364: solar(0, 12, 29), 365: solar(1, 1, 1), 1825: solar(4, 12, 30), 1826: solar(5, 1, 1), api.MaxDay: solar(2737, 11, 27),
	}, SolarDate, SolarDay)
}

func TestAllSolarDates(t *testing.T) { // P17.3, P17.7
	d := checkAllDates(t, solar(0, 1, 1), afterSolar, SolarDate, SolarDay)
	if n, e := SolarDay(d); n != 0 || e != api.ErrTooLarge {
		t.Errorf("SolarDay(%v): %d, %d", d, n, e)
	}
}

func TestSolarYears(t *testing.T) { // P17.7
	start, e := YearStart(0)
	for year := 0; e == api.OK; year++ {
		want := 365
		if Leap(year) {
			want = 366
		}
		sum := 0
		for month := range 14 {
			sum += MonthDays(year, month)
		}
		if sum != want {
			t.Fatalf("the months of %d have %d days", year, sum)
		}
		next, e2 := YearStart(year + 1)
		if e2 == api.OK && next-start != want {
			t.Fatalf("year %d has %d days", year, next-start)
		}
		start, e = next, e2
	}
}

func TestSolarDateErrors(t *testing.T) { // P17.3, P1
	for _, day := range []int{-1, -365, math.MinInt} {
		if d, e := SolarDate(day); d != (api.Date{}) || e != api.ErrArgument {
			t.Errorf("SolarDate(%d): %v, %d", day, d, e)
		}
		if d, e := CycleDate(day); d != (api.Date{}) || e != api.ErrArgument {
			t.Errorf("CycleDate(%d): %v, %d", day, d, e)
		}
	}
	for _, day := range []int{api.MaxDay + 1, api.MaxDay + 2, 1 << 40, math.MaxInt} {
		if d, e := SolarDate(day); d != (api.Date{}) || e != api.ErrTooLarge {
			t.Errorf("SolarDate(%d): %v, %d", day, d, e)
		}
		if d, e := CycleDate(day); d != (api.Date{}) || e != api.ErrTooLarge {
			t.Errorf("CycleDate(%d): %v, %d", day, d, e)
		}
	}
}

// wrongSolar returns dates that are no solar dates, by what is wrong with them.
func wrongSolar() map[string]api.Date {
	out := map[string]api.Date{
		"the zero date":                       {},
		"no calendar":                         {Year: 1, Month: 1, Day: 1},
		"lunisolar":                           {Calendar: api.Lunisolar, Year: 1, Month: 1, Day: 1},
		"a cycle date":                        cycle(1, 1, 1),
		"calendar 4":                          {Calendar: 4, Year: 1, Month: 1, Day: 1},
		"a negative calendar":                 {Calendar: -1, Year: 1, Month: 1, Day: 1},
		"Leap":                                {Calendar: api.Solar, Year: 1, Month: 1, Day: 1, Leap: true},
		"Leap in a leap year":                 {Calendar: api.Solar, Year: 4, Month: 12, Day: 30, Leap: true},
		"Leap in month 6":                     {Calendar: api.Solar, Year: 2, Month: 6, Day: 1, Leap: true},
		"Leap, too great":                     {Calendar: api.Solar, Year: 1 << 60, Month: 1, Day: 1, Leap: true},
		"year -1":                             solar(-1, 1, 1),
		"year -4":                             solar(-4, 12, 30),
		"the least year":                      solar(math.MinInt, 1, 1),
		"month 0":                             solar(1, 0, 1),
		"month 13":                            solar(1, 13, 1),
		"month -1":                            solar(1, -1, 1),
		"the least month":                     solar(1, math.MinInt, 1),
		"the greatest month":                  solar(1, math.MaxInt, 1),
		"day 0":                               solar(1, 1, 0),
		"day 0 of a later month":              solar(1, 2, 0),
		"day -1":                              solar(1, 1, -1),
		"the least day":                       solar(1, 1, math.MinInt),
		"the greatest day":                    solar(1, 1, math.MaxInt),
		"day 30 of month 12":                  solar(1, 12, 30),
		"day 30 of month 12 in year 0":        solar(0, 12, 30),
		"day 30 of month 12 in year 128":      solar(128, 12, 30),
		"day 31 of month 12 in year 4":        solar(4, 12, 31),
		"month 13 in a year too great":        solar(math.MaxInt, 13, 1),
		"day 0 in a year too great":           solar(math.MaxInt, 1, 0),
		"day 32 in a year too great":          solar(2738, 1, 32),
		"another calendar, too great":         {Calendar: api.Cycle, Year: math.MaxInt, Month: 1, Day: 1},
		"no calendar, too great":              {Year: math.MaxInt, Month: 1, Day: 1},
		"day 0 just behind MaxDay":            solar(2737, 12, 0),
		"day 32 of a month just after MaxDay": solar(2737, 11, 32),
	}
	for month := 1; month <= 12; month++ {
		out["a day too great in month "+string(rune('a'+month))] = solar(1, month, monthDaysBy(1, month)+1)
	}
	return out
}

func TestSolarDayErrors(t *testing.T) { // P17.3, P1
	for name, d := range wrongSolar() {
		if n, e := SolarDay(d); n != 0 || e != api.ErrArgument {
			t.Errorf("%s: %d, %d", name, n, e)
		}
	}
	for _, d := range []api.Date{solar(2737, 11, 28), solar(2737, 11, 31), solar(2737, 12, 1), solar(2737, 12, 29), solar(2738, 1, 1), solar(2739, 1, 1), solar(2740, 12, 30), solar(1<<40, 1, 1), solar(1<<60+4, 12, 30), solar(math.MaxInt/365, 12, 1), solar(math.MaxInt/365+1, 1, 1), solar(math.MaxInt/31, 7, 31), solar(math.MaxInt-127, 1, 1), solar(math.MaxInt-3, 12, 30), solar(math.MaxInt, 12, 29)} {
		if n, e := SolarDay(d); n != 0 || e != api.ErrTooLarge {
			t.Errorf("SolarDay(%v): %d, %d", d, n, e)
		}
	}
}

func TestWeekday(t *testing.T) { // P17.6
	for day, want := range map[int]int{math.MinInt: -1, -6: -1, -2: -1, -1: -1, 0: 0, 1: 1, 5: 5, 6: 0, 7: 1, 11: 5, 12: 0, 1825: 1, api.MaxDay - 3: 0, api.MaxDay: 3, api.MaxDay + 1: -1, api.MaxDay + 3: -1, 1 << 40: -1, math.MaxInt: -1} {
		if n := Weekday(day); n != want {
			t.Errorf("Weekday(%d): %d, not %d", day, n, want)
		}
	}
	want := 0
	for day := range api.MaxDay + 1 {
		if n := Weekday(day); n != want {
			t.Fatalf("Weekday(%d): %d, not %d", day, n, want)
		}
		if want++; want == 6 {
			want = 0
		}
	}
}

func TestAnyArguments(t *testing.T) { // P1, P17.1 to P17.7
	r := rand.New(rand.NewSource(1))
	values := append([]int{-20, 10, 11, 12, 13, 14, 18, 19, 20, 21, 28, 29, 30, 31, 32, 259, 260, 261, 3845, 3846, 3847, api.MaxDay - 1, api.MaxDay, api.MaxDay + 1}, years...)
	pick := func() int { return values[r.Intn(len(values))] }
	for range 200000 {
		d := api.Date{Calendar: r.Intn(5), Year: pick(), Month: pick(), Day: pick(), Leap: r.Intn(4) == 0}
		n, e := SolarDay(d)
		valid := d.Calendar == 1 && !d.Leap && d.Day >= 1 && d.Day <= monthDaysBy(d.Year, d.Month)
		if back, _ := SolarDate(n); (e == api.ErrArgument) == valid || (e == api.OK) != (back == d) || e != api.OK && n != 0 {
			t.Fatalf("SolarDay(%v): %d, %d", d, n, e)
		}
		n, e = CycleDay(d)
		valid = d.Calendar == 3 && !d.Leap && d.Year >= 0 && d.Month >= 1 && d.Month <= 13 && d.Day >= 0 && d.Day <= 19
		if back, _ := CycleDate(n); (e == api.ErrArgument) == valid || (e == api.OK) != (back == d) || e != api.OK && n != 0 {
			t.Fatalf("CycleDay(%v): %d, %d", d, n, e)
		}
		number, name, after := pick(), pick(), pick()
		valid = number >= 1 && number <= 13 && name >= 0 && name <= 19 && after >= -1
		if n, e := Next(number, name, after); (e == api.ErrArgument) == valid || e == api.OK && n <= after || e != api.OK && n != 0 {
			t.Fatalf("Next(%d, %d, %d): %d, %d", number, name, after, n, e)
		}
	}
}
