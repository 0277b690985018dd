package clock

import (
	"math"
	"math/rand"
	"testing"

	"pentaglot/api"
)

// clocks are the three clocks.
var clocks = []int{1, 2, 3}

// at returns a time of day.
func at(clock, period, hour, minute int) api.ClockTime {
	return api.ClockTime{Clock: clock, Period: period, Hour: hour, Minute: minute}
}

// timeBy is the definition of the time of day of a minute.
func timeBy(clock, minute int) api.ClockTime {
	c := api.ClockTime{Clock: clock}
	h := 0
	for ; minute >= 60; minute -= 60 {
		h++
	}
	c.Minute = minute
	switch clock {
	case 1:
		c.Hour = h
	case 2:
		if h >= 12 {
			c.Period, h = 1, h-12
		}
		if h == 0 {
			h = 12
		}
		c.Hour = h
	case 3:
		for ; h >= 4; h -= 4 {
			c.Period++
		}
		c.Hour = h
	}
	return c
}

// minutesBy returns the minutes of all valid times of day.
func minutesBy() map[api.ClockTime]int {
	out := map[api.ClockTime]int{}
	for _, clock := range clocks {
		for minute := range 1440 {
			out[timeBy(clock, minute)] = minute
		}
	}
	return out
}

// wrongTimes returns times of day that are not valid, by what is wrong with them.
func wrongTimes() map[string]api.ClockTime {
	return map[string]api.ClockTime{
		"the zero value":               {},
		"no clock":                     {Hour: 1},
		"clock -1":                     {Clock: -1, Hour: 1},
		"clock 4":                      {Clock: 4, Hour: 1},
		"the least clock":              {Clock: math.MinInt, Hour: 1},
		"the greatest clock":           {Clock: math.MaxInt, Hour: 1},
		"hour -1":                      {Clock: 1, Hour: -1},
		"hour 24":                      {Clock: 1, Hour: 24},
		"hour -1 and minute 60":        {Clock: 1, Hour: -1, Minute: 60},
		"hour 1 and minute -1":         {Clock: 1, Hour: 1, Minute: -1},
		"minute -1":                    {Clock: 1, Minute: -1},
		"minute 60":                    {Clock: 1, Minute: 60},
		"period 1":                     {Clock: 1, Period: 1, Hour: 1},
		"period -1":                    {Clock: 1, Period: -1, Hour: 1},
		"hour 0 of 12":                 {Clock: 2},
		"hour 0 of 12 in period 1":     {Clock: 2, Period: 1},
		"hour 13 of 12":                {Clock: 2, Hour: 13},
		"hour 24 of 12":                {Clock: 2, Hour: 24},
		"hour -1 of 12":                {Clock: 2, Hour: -1},
		"hour -12 of 12":               {Clock: 2, Hour: -12},
		"hour -1 of 12 in period 1":    {Clock: 2, Period: 1, Hour: -1},
		"minute 60 of 12":              {Clock: 2, Hour: 12, Minute: 60},
		"minute -1 of 12":              {Clock: 2, Hour: 12, Minute: -1},
		"period 2 of 2":                {Clock: 2, Period: 2, Hour: 1},
		"period -1 of 2":               {Clock: 2, Period: -1, Hour: 1},
		"hour 4 of 4":                  {Clock: 3, Hour: 4},
		"hour -1 of 4":                 {Clock: 3, Hour: -1},
		"hour -1 of 4 in period 1":     {Clock: 3, Period: 1, Hour: -1},
		"hour 4 of 4 in period -1":     {Clock: 3, Period: -1, Hour: 4},
		"minute 60 of a watch":         {Clock: 3, Hour: 3, Minute: 60},
		"minute -1 of a watch":         {Clock: 3, Hour: 3, Minute: -1},
		"period 6 of 6":                {Clock: 3, Period: 6},
		"period -1 of 6":               {Clock: 3, Period: -1},
		"a period that wraps around":   {Clock: 3, Period: 1 << 62, Hour: 1},
		"a period that nearly does":    {Clock: 2, Period: math.MaxInt, Hour: 1},
		"an hour that wraps around":    {Clock: 1, Hour: 1 << 62},
		"the least hour":               {Clock: 1, Hour: math.MinInt},
		"the least hour of 12":         {Clock: 2, Hour: math.MinInt},
		"the greatest hour of 12":      {Clock: 2, Hour: math.MaxInt},
		"the least minute":             {Clock: 1, Minute: math.MinInt},
		"the greatest minute":          {Clock: 1, Minute: math.MaxInt},
		"parts that cancel themselves": {Clock: 3, Period: 1 << 60, Hour: -(1 << 62), Minute: 60},
	}
}

func TestExamples(t *testing.T) { // P19.1, P19.3, P19.4
	for _, c := range []struct {
		minute int
		want   api.ClockTime
	}{
		{0, api.ClockTime{Clock: 2, Period: 0, Hour: 12, Minute: 0}}, {725, api.ClockTime{Clock: 2, Period: 1, Hour: 12, Minute: 5}}, {780, api.ClockTime{Clock: 2, Period: 1, Hour: 1, Minute: 0}},
		{725, api.ClockTime{Clock: 3, Period: 3, Hour: 0, Minute: 5}}, {1439, api.ClockTime{Clock: 3, Period: 5, Hour: 3, Minute: 59}},
	} {
		if x, e := Time(c.want.Clock, c.minute); x != c.want || e != api.OK {
			t.Errorf("Time(%d, %d): %v, %d", c.want.Clock, c.minute, x, e)
		}
		if m, e := Minute(c.want); m != c.minute || e != api.OK {
			t.Errorf("Minute(%v): %d, %d", c.want, m, e)
		}
	}
	late, early := api.ClockTime{Clock: 1, Hour: 23}, api.ClockTime{Clock: 1, Hour: 1, Minute: 30}
	if n, e := Until(late, early); n != 150 || e != api.OK {
		t.Error(n, e)
	}
	if n, e := Until(late, late); n != 0 || e != api.OK {
		t.Error(n, e)
	}
	if day, minute, e := Split(1441); day != 1 || minute != 1 || e != api.OK {
		t.Error(day, minute, e)
	}
}

func TestTime(t *testing.T) { // P19.1
	for _, c := range []struct {
		minute int
		want   [3]api.ClockTime
	}{
		{0, [3]api.ClockTime{at(1, 0, 0, 0), at(2, 0, 12, 0), at(3, 0, 0, 0)}},
		{1, [3]api.ClockTime{at(1, 0, 0, 1), at(2, 0, 12, 1), at(3, 0, 0, 1)}},
		{59, [3]api.ClockTime{at(1, 0, 0, 59), at(2, 0, 12, 59), at(3, 0, 0, 59)}},
		{60, [3]api.ClockTime{at(1, 0, 1, 0), at(2, 0, 1, 0), at(3, 0, 1, 0)}},
		{239, [3]api.ClockTime{at(1, 0, 3, 59), at(2, 0, 3, 59), at(3, 0, 3, 59)}},
		{240, [3]api.ClockTime{at(1, 0, 4, 0), at(2, 0, 4, 0), at(3, 1, 0, 0)}},
		{719, [3]api.ClockTime{at(1, 0, 11, 59), at(2, 0, 11, 59), at(3, 2, 3, 59)}},
		{720, [3]api.ClockTime{at(1, 0, 12, 0), at(2, 1, 12, 0), at(3, 3, 0, 0)}},
		{779, [3]api.ClockTime{at(1, 0, 12, 59), at(2, 1, 12, 59), at(3, 3, 0, 59)}},
		{780, [3]api.ClockTime{at(1, 0, 13, 0), at(2, 1, 1, 0), at(3, 3, 1, 0)}},
		{1439, [3]api.ClockTime{at(1, 0, 23, 59), at(2, 1, 11, 59), at(3, 5, 3, 59)}},
	} {
		for i, want := range c.want {
			if x, e := Time(clocks[i], c.minute); x != want || e != api.OK {
				t.Errorf("Time(%d, %d): %v, %d", clocks[i], c.minute, x, e)
			}
		}
	}
}

func TestEveryMinute(t *testing.T) { // P19.1, P19.2
	for _, clock := range clocks {
		found := map[api.ClockTime]bool{}
		for minute := range 1440 {
			want := timeBy(clock, minute)
			if x, e := Time(clock, minute); x != want || e != api.OK {
				t.Errorf("Time(%d, %d): %v, %d", clock, minute, x, e)
			}
			if m, e := Minute(want); m != minute || e != api.OK || !Valid(want) {
				t.Errorf("Minute(%v): %d, %d", want, m, e)
			}
			for _, other := range clocks {
				if x, e := Convert(want, other); x != timeBy(other, minute) || e != api.OK {
					t.Errorf("Convert(%v, %d): %v, %d", want, other, x, e)
				}
			}
			found[want] = true
		}
		if len(found) != 1440 {
			t.Errorf("clock %d has %d times of day", clock, len(found))
		}
	}
}

func TestTimeErrors(t *testing.T) { // P19.1: section Errors
	for _, minute := range []int{math.MinInt, -1440, -60, -1, 1440, 1441, 2880, 1 << 40, math.MaxInt} {
		for _, clock := range []int{-1, 0, 1, 2, 3, 4} {
			if x, e := Time(clock, minute); x != (api.ClockTime{}) || e != api.ErrArgument {
				t.Errorf("Time(%d, %d): %v, %d", clock, minute, x, e)
			}
		}
	}
	for _, clock := range []int{math.MinInt, -3, -2, -1, 0, 4, 5, 6, 100, math.MaxInt} {
		for _, minute := range []int{0, 1, 59, 60, 719, 720, 1439} {
			if x, e := Time(clock, minute); x != (api.ClockTime{}) || e != api.ErrArgument {
				t.Errorf("Time(%d, %d): %v, %d", clock, minute, x, e)
			}
		}
	}
}

// TestValid tries all times of day with numbers in and near their ranges.
func TestValid(t *testing.T) { // P19.1
	minutes := minutesBy()
	for clock := -2; clock <= 5; clock++ {
		for period := -2; period <= 7; period++ {
			for hour := -13; hour <= 25; hour++ {
				for minute := -2; minute <= 61; minute++ {
					c := api.ClockTime{Clock: clock, Period: period, Hour: hour, Minute: minute}
					want, valid := minutes[c]
					if Valid(c) != valid {
						t.Errorf("Valid(%v): %t", c, !valid)
					}
					if m, e := Minute(c); m != want || (e == api.OK) != valid || !valid && e != api.ErrArgument {
						t.Errorf("Minute(%v): %d, %d", c, m, e)
					}
				}
			}
		}
	}
}

func TestWrongTimes(t *testing.T) { // P19.1 to P19.3: section Errors
	right := api.ClockTime{Clock: 2, Period: 1, Hour: 12, Minute: 5}
	for name, c := range wrongTimes() {
		if Valid(c) {
			t.Errorf("%s: valid", name)
		}
		if m, e := Minute(c); m != 0 || e != api.ErrArgument {
			t.Errorf("%s: Minute %d, %d", name, m, e)
		}
		for _, clock := range []int{-1, 0, 1, 2, 3, 4} {
			if x, e := Convert(c, clock); x != (api.ClockTime{}) || e != api.ErrArgument {
				t.Errorf("%s: Convert to %d: %v, %d", name, clock, x, e)
			}
		}
		for _, pair := range [][2]api.ClockTime{{c, right}, {right, c}, {c, c}} {
			if n, e := Compare(pair[0], pair[1]); n != 0 || e != api.ErrArgument {
				t.Errorf("%s: Compare%v: %d, %d", name, pair, n, e)
			}
			if n, e := Until(pair[0], pair[1]); n != 0 || e != api.ErrArgument {
				t.Errorf("%s: Until%v: %d, %d", name, pair, n, e)
			}
		}
	}
}

func TestConvertToNoClock(t *testing.T) { // P19.2: section Errors
	for _, clock := range []int{math.MinInt, -1, 0, 4, 5, math.MaxInt} {
		for c := range minutesBy() {
			if x, e := Convert(c, clock); x != (api.ClockTime{}) || e != api.ErrArgument {
				t.Errorf("Convert(%v, %d): %v, %d", c, clock, x, e)
			}
		}
	}
}

func TestPeriods(t *testing.T) { // P19.2
	for clock, want := range map[int]int{math.MinInt: 0, -3: 0, -2: 0, -1: 0, 0: 0, 1: 1, 2: 2, 3: 6, 4: 0, 5: 0, 6: 0, 100: 0, math.MaxInt: 0} {
		if n := Periods(clock); n != want {
			t.Errorf("Periods(%d): %d", clock, n)
		}
	}
}

// TestPairs compares times of day on all clocks with the minutes that pass from one to the next.
func TestPairs(t *testing.T) { // P19.3
	minutes := []int{0, 1, 2, 59, 60, 61, 239, 240, 718, 719, 720, 721, 779, 780, 1200, 1380, 1438, 1439}
	for _, a := range minutes {
		passed, now := map[int]int{}, a
		for i := range 1440 {
			passed[now] = i
			if now++; now == 1440 {
				now = 0
			}
		}
		for b := range 1440 {
			want := 0
			if a < b {
				want = -1
			} else if a > b {
				want = 1
			}
			x, y := timeBy(clocks[b%3], a), timeBy(clocks[(b/3+b)%3], b)
			if n, e := Compare(x, y); n != want || e != api.OK {
				t.Errorf("Compare(%v, %v): %d, %d", x, y, n, e)
			}
			if n, e := Until(x, y); n != passed[b] || e != api.OK {
				t.Errorf("Until(%v, %v): %d, %d", x, y, n, e)
			}
		}
	}
}

func TestEqualTimes(t *testing.T) { // P19.3
	for minute := range 1440 {
		for _, first := range clocks {
			for _, second := range clocks {
				a, b := timeBy(first, minute), timeBy(second, minute)
				if n, e := Compare(a, b); n != 0 || e != api.OK {
					t.Errorf("Compare(%v, %v): %d, %d", a, b, n, e)
				}
				if n, e := Until(a, b); n != 0 || e != api.OK {
					t.Errorf("Until(%v, %v): %d, %d", a, b, n, e)
				}
			}
		}
	}
}

func TestSplit(t *testing.T) { // P19.4
	for time, want := range map[int][2]int{0: {0, 0}, 1: {0, 1}, 1439: {0, 1439}, 1440: {1, 0}, 1441: {1, 1}, 2879: {1, 1439}, 2880: {2, 0}, 45420: {31, 780}, api.MaxTime - 1440: {999998, 1439}, api.MaxTime - 1439: {999999, 0}, api.MaxTime: {999999, 1439}} {
		if day, minute, e := Split(time); day != want[0] || minute != want[1] || e != api.OK {
			t.Errorf("Split(%d): %d, %d, %d", time, day, minute, e)
		}
	}
	for _, day := range []int{0, 1, 2, 999, 123456, 999998, 999999} {
		for minute := range 1440 {
			if d, m, e := Split(day*1440 + minute); d != day || m != minute || e != api.OK {
				t.Errorf("Split(%d): %d, %d, %d", day*1440+minute, d, m, e)
			}
		}
	}
	for _, time := range []int{math.MinInt, -1440, -2, -1} {
		if day, minute, e := Split(time); day != 0 || minute != 0 || e != api.ErrArgument {
			t.Errorf("Split(%d): %d, %d, %d", time, day, minute, e)
		}
	}
	for _, time := range []int{api.MaxTime + 1, 1440 * 1000000, api.MaxTime + 1440, 1 << 40, math.MaxInt} {
		if day, minute, e := Split(time); day != 0 || minute != 0 || e != api.ErrTooLarge {
			t.Errorf("Split(%d): %d, %d, %d", time, day, minute, e)
		}
	}
}

func TestAnyArguments(t *testing.T) { // P1, P19.1 to P19.4
	minutes := minutesBy()
	values := []int{math.MinInt, math.MinInt + 12, -1 << 62, -1 << 60, -1440, -60, -12, -1, 0, 1, 2, 3, 4, 5, 6, 11, 12, 13, 23, 24, 59, 60, 1439, 1440, 1 << 60, 1<<60 + 1, 1 << 62, 1<<62 + 1, math.MaxInt / 60, math.MaxInt/60 + 1, math.MaxInt - 12, math.MaxInt}
	r := rand.New(rand.NewSource(19))
	pick := func() int { return values[r.Intn(len(values))] }
	for range 300000 {
		a := api.ClockTime{Clock: r.Intn(5), Period: pick(), Hour: pick(), Minute: pick()}
		b := api.ClockTime{Clock: r.Intn(5), Period: pick(), Hour: pick(), Minute: pick()}
		_, valid := minutes[a]
		_, other := minutes[b]
		if Valid(a) != valid {
			t.Fatalf("Valid(%v): %t", a, !valid)
		}
		if _, e := Until(a, b); (e == api.OK) != (valid && other) {
			t.Fatalf("Until(%v, %v): %d", a, b, e)
		}
		if _, e := Compare(a, b); (e == api.OK) != (valid && other) {
			t.Fatalf("Compare(%v, %v): %d", a, b, e)
		}
	}
}
