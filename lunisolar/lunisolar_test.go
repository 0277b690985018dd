package lunisolar

import (
	"math"
	"math/rand"
	"slices"
	"testing"

	"pentaglot/api"
)

// years are years with each remainder, negative ones, and those near the limits.
func years() []int {
	out := []int{math.MinInt, math.MinInt + 1, -1 << 40, 2736, 2737, 2738, 2739, 2740, 2741, 2755, 2824, 2825, 1 << 40, math.MaxInt / 354, math.MaxInt/354 + 1, math.MaxInt / 6936 * 19}
	for year := -40; year < 60; year++ {
		out = append(out, year)
	}
	for i := range 20 {
		out = append(out, math.MaxInt-i)
	}
	return out
}

func TestLeap(t *testing.T) { // P18.1
	for _, year := range years() {
		if Leap(year) != leapBy(year) {
			t.Errorf("Leap(%d): not %t", year, leapBy(year))
		}
	}
	for year := range 3000 {
		if Leap(year) != leapBy(year) {
			t.Errorf("Leap(%d): not %t", year, leapBy(year))
		}
	}
	for _, year := range []int{-1, -4, -6, -9, -12, -14, -17, -2, -5, -7, -10, -13, -15, -18} {
		if Leap(year) {
			t.Errorf("Leap(%d)", year)
		}
	}
}

func TestYearDays(t *testing.T) { // P18.1
	for _, year := range years() {
		want := 354
		switch {
		case year < 0:
			want = 0
		case leapBy(year):
			want = 384
		}
		if n := YearDays(year); n != want {
			t.Errorf("YearDays(%d): %d, not %d", year, n, want)
		}
	}
}

func TestMonths(t *testing.T) { // P18.2, P18.5
	for _, year := range years() {
		months := Months(year)
		if year < 0 {
			if months != nil {
				t.Errorf("Months(%d): %v", year, months)
			}
			continue
		}
		var want []api.Date
		for month := 1; month <= 12; month++ {
			want = append(want, plain(year, month, 1))
			if month == 6 && leapBy(year) {
				want = append(want, leap(year, 6, 1))
			}
		}
		if !slices.Equal(months, want) {
			t.Errorf("Months(%d): %v", year, months)
		}
		sum := 0
		for _, month := range months {
			sum += MonthDays(month)
		}
		if sum != YearDays(year) {
			t.Errorf("the months of %d have %d days", year, sum)
		}
	}
}

func TestMonthsMemory(t *testing.T) { // P18.2
	first := Months(2)
	for i := range first {
		first[i] = api.Date{}
	}
	first = append(first[:1], plain(9, 9, 9))
	if second := Months(2); second[0] != plain(2, 1, 1) || second[1] != plain(2, 2, 1) || len(second) != 13 {
		t.Errorf("Months(2): %v after %v", second, first)
	}
}

func TestMonthDays(t *testing.T) { // P18.2
	for _, c := range []struct {
		d    api.Date
		want int
	}{
		{plain(0, 1, 1), 30}, {plain(0, 2, 1), 29}, {plain(0, 3, 1), 30}, {plain(0, 4, 1), 29}, {plain(0, 5, 1), 30}, {plain(0, 6, 1), 29},
		{plain(0, 7, 1), 30}, {plain(0, 8, 1), 29}, {plain(0, 9, 1), 30}, {plain(0, 10, 1), 29}, {plain(0, 11, 1), 30}, {plain(0, 12, 1), 29},
		{plain(2, 12, 1), 29}, {plain(2, 6, 1), 29}, {leap(2, 6, 1), 30}, {leap(1, 6, 1), 0}, {leap(0, 6, 1), 0}, {leap(21, 6, 1), 30}, {leap(2, 5, 1), 0}, {leap(2, 7, 1), 0}, {leap(2, 12, 1), 0},
		{plain(0, 0, 1), 0}, {plain(0, 13, 1), 0}, {plain(2, 13, 1), 0}, {plain(0, -1, 1), 0}, {plain(-1, 1, 1), 0}, {leap(-17, 6, 1), 0},
		{plain(0, 1, 0), 30}, {plain(0, 1, 31), 30}, {plain(0, 2, -5), 29}, {plain(0, 2, math.MinInt), 29}, {leap(2, 6, math.MaxInt), 30},
		{api.Date{Year: 0, Month: 1, Day: 1}, 0}, {api.Date{Calendar: api.Solar, Month: 1, Day: 1}, 0}, {api.Date{Calendar: api.Cycle, Month: 1, Day: 1}, 0}, {api.Date{Calendar: 4, Month: 1, Day: 1}, 0}, {api.Date{Calendar: -2, Month: 1, Day: 1}, 0}, {api.Date{Calendar: api.Solar, Year: 2, Month: 6, Leap: true}, 0},
		{plain(math.MaxInt, 1, 1), 30}, {plain(math.MaxInt, 13, 1), 0},
	} {
		if n := MonthDays(c.d); n != c.want {
			t.Errorf("MonthDays(%v): %d, not %d", c.d, n, c.want)
		}
	}
	for _, year := range years() {
		for _, month := range []int{math.MinInt, -6, -1, 0, 1, 2, 3, 4, 5, 6, 7, 8, 9, 10, 11, 12, 13, 14, 18, math.MaxInt} {
			for _, d := range []api.Date{plain(year, month, 0), leap(year, month, 0)} {
				if n, want := MonthDays(d), monthDaysBy(d); n != want {
					t.Errorf("MonthDays(%v): %d, not %d", d, n, want)
				}
			}
		}
	}
}

func TestYearStart(t *testing.T) { // P18.3
	day, year := 0, 0
	for ; day <= api.MaxDay; year++ {
		if n, e := YearStart(year); n != day || e != api.OK {
			t.Fatalf("YearStart(%d): %d, %d, not %d", year, n, e, day)
		}
		day += 354
		if leapBy(year) {
			day += 30
		}
	}
	if year != 2740 {
		t.Errorf("year %d is the first one after MaxDay", year)
	}
	for _, year := range years() {
		want := api.Errno(api.OK)
		switch {
		case year < 0:
			want = api.ErrArgument
		case year >= 2740:
			want = api.ErrTooLarge
		}
		if n, e := YearStart(year); e != want || e != api.OK && n != 0 {
			t.Errorf("YearStart(%d): %d, %d", year, n, e)
		}
	}
}

func TestDates(t *testing.T) { // P18.3
	for _, c := range []struct {
		day int
		d   api.Date
	}{
		{0, plain(0, 1, 1)}, {29, plain(0, 1, 30)}, {30, plain(0, 2, 1)}, {58, plain(0, 2, 29)}, {59, plain(0, 3, 1)}, {176, plain(0, 6, 29)}, {177, plain(0, 7, 1)}, {353, plain(0, 12, 29)}, {354, plain(1, 1, 1)},
		{708, plain(2, 1, 1)}, {708 + 176, plain(2, 6, 29)}, {708 + 177, leap(2, 6, 1)}, {708 + 206, leap(2, 6, 30)}, {708 + 207, plain(2, 7, 1)}, {1091, plain(2, 12, 29)}, {1092, plain(3, 1, 1)},
		{6935, plain(18, 12, 29)}, {6936, plain(19, 1, 1)}, {api.MaxDay, plain(2739, 5, 6)},
	} {
		if d, e := Date(c.day); d != c.d || e != api.OK {
			t.Errorf("Date(%d): %v, %d", c.day, d, e)
		}
		if n, e := Day(c.d); n != c.day || e != api.OK {
			t.Errorf("Day(%v): %d, %d", c.d, n, e)
		}
	}
}

func TestAllDates(t *testing.T) { // P18.3, P18.5
	dates := allDates()
	for day, want := range dates {
		if d, e := Date(day); d != want || e != api.OK {
			t.Fatalf("Date(%d): %v, %d, not %v", day, d, e, want)
		}
		if n, e := Day(want); n != day || e != api.OK {
			t.Fatalf("Day(%v): %d, %d, not %d", want, n, e, day)
		}
		if day >= 6936 {
			past := dates[day-6936]
			past.Year += 19
			if past != want {
				t.Fatalf("%v comes 6936 days before %v", dates[day-6936], want)
			}
		}
	}
}

func TestCycleOfYears(t *testing.T) { // P18.5
	for first := range 3000 {
		leaps, days := 0, 0
		for year := first; year < first+19; year++ {
			days += YearDays(year)
			if Leap(year) {
				leaps++
			}
		}
		if leaps != 7 || days != 6936 {
			t.Fatalf("19 years from %d: %d leap years, %d days", first, leaps, days)
		}
	}
}

func TestDateErrors(t *testing.T) { // P18.3, P1
	for _, day := range []int{math.MinInt, -6936, -2, -1, api.MaxDay + 1, api.MaxDay + 2, 1 << 40, math.MaxInt} {
		if d, e := Date(day); d != (api.Date{}) || e != api.ErrArgument {
			t.Errorf("Date(%d): %v, %d", day, d, e)
		}
	}
}

// wrongDates returns dates that are not valid, by what is wrong with them.
func wrongDates() map[string]api.Date {
	return map[string]api.Date{
		"the zero date":                        {},
		"no calendar":                          {Year: 2, Month: 1, Day: 1},
		"a solar date":                         {Calendar: api.Solar, Year: 2, Month: 1, Day: 1},
		"a cycle date":                         {Calendar: api.Cycle, Year: 2, Month: 1, Day: 1},
		"calendar 4":                           {Calendar: 4, Year: 2, Month: 1, Day: 1},
		"another calendar, too great":          {Calendar: api.Solar, Year: math.MaxInt, Month: 1, Day: 1},
		"year -1":                              plain(-1, 1, 1),
		"year -17 with Leap":                   leap(-17, 6, 1),
		"the least year":                       plain(math.MinInt, 1, 1),
		"month 0":                              plain(2, 0, 1),
		"month 13":                             plain(2, 13, 1),
		"month -1":                             plain(2, -1, 1),
		"month 13 with Leap":                   leap(2, 13, 1),
		"the greatest month":                   plain(2, math.MaxInt, 1),
		"the least month":                      plain(2, math.MinInt, 1),
		"day 0":                                plain(2, 1, 0),
		"day 0 of a later month":               plain(2, 2, 0),
		"day 0 of an intercalary month":        leap(2, 6, 0),
		"day -1":                               plain(2, 1, -1),
		"day 31 of a month of 30 days":         plain(2, 1, 31),
		"day 31 of month 11":                   plain(2, 11, 31),
		"day 30 of a month of 29 days":         plain(2, 2, 30),
		"day 31 of a month of 29 days":         plain(2, 2, 31),
		"day 30 of month 6":                    plain(2, 6, 30),
		"day 30 of month 12":                   plain(2, 12, 30),
		"day 31 of an intercalary month":       leap(2, 6, 31),
		"the greatest day":                     plain(2, 1, math.MaxInt),
		"the least day":                        plain(2, 1, math.MinInt),
		"Leap in another year":                 leap(1, 6, 1),
		"Leap in year 0":                       leap(0, 6, 1),
		"Leap in month 1":                      leap(2, 1, 1),
		"Leap in month 5":                      leap(2, 5, 1),
		"Leap in month 7":                      leap(2, 7, 1),
		"Leap in month 12":                     leap(2, 12, 1),
		"month 13, too great":                  plain(math.MaxInt, 13, 1),
		"day 0, too great":                     plain(2740, 1, 0),
		"day 30 of month 2, too great":         plain(2740, 2, 30),
		"day 31 of month 5 just after MaxDay":  plain(2739, 5, 31),
		"day 0 of month 6 just after MaxDay":   plain(2739, 6, 0),
		"Leap in another year, too great":      leap(2740, 6, 1),
		"Leap in month 7, too great":           leap(2741, 7, 1),
		"day 31 of an intercalary month there": leap(2741, 6, 31),
	}
}

// greatDates returns valid dates whose days are greater than MaxDay.
func greatDates() []api.Date {
	return []api.Date{plain(2739, 5, 7), plain(2739, 5, 30), plain(2739, 6, 1), plain(2739, 12, 29), plain(2740, 1, 1), plain(2741, 1, 1), leap(2741, 6, 30), plain(2824, 12, 1), plain(2825, 1, 1), plain(1<<40, 6, 29), plain(math.MaxInt/384, 12, 29), plain(math.MaxInt/354+1, 1, 1), plain(math.MaxInt/6936*19+19, 3, 30), plain(math.MaxInt-1, 1, 1), plain(math.MaxInt, 12, 29)}
}

func TestDayErrors(t *testing.T) { // P18.3, P1
	for name, d := range wrongDates() {
		if n, e := Day(d); n != 0 || e != api.ErrArgument {
			t.Errorf("%s: %d, %d", name, n, e)
		}
	}
	for _, d := range greatDates() {
		if n, e := Day(d); n != 0 || e != api.ErrTooLarge {
			t.Errorf("Day(%v): %d, %d", d, n, e)
		}
	}
}

func TestCompare(t *testing.T) { // P18.4
	ordered := []api.Date{
		plain(0, 1, 1), plain(0, 1, 2), plain(0, 1, 30), plain(0, 2, 1), plain(0, 12, 29), plain(1, 1, 1), plain(1, 6, 29), plain(1, 7, 1),
		plain(2, 5, 30), plain(2, 6, 1), plain(2, 6, 28), plain(2, 6, 29), leap(2, 6, 1), leap(2, 6, 2), leap(2, 6, 30), plain(2, 7, 1), plain(2, 12, 29),
		plain(3, 1, 1), plain(21, 6, 29), leap(21, 6, 1), plain(2739, 1, 1), plain(2739, 5, 5), plain(2739, 5, 6),
	}
	for i, a := range ordered {
		for j, b := range ordered {
			want := 0
			switch {
			case i < j:
				want = -1
			case i > j:
				want = 1
			}
			if n, e := Compare(a, b); n != want || e != api.OK {
				t.Errorf("Compare(%v, %v): %d, %d, not %d", a, b, n, e, want)
			}
		}
	}
}

// before reports whether a date comes before another one, by P18.5.
func before(a, b api.Date) bool {
	switch {
	case a.Year != b.Year:
		return a.Year < b.Year
	case a.Month != b.Month:
		return a.Month < b.Month
	case a.Leap != b.Leap:
		return b.Leap
	}
	return a.Day < b.Day
}

func TestOrderOfDates(t *testing.T) { // P18.4, P18.5
	r := rand.New(rand.NewSource(1))
	for range 100000 {
		day := r.Intn(api.MaxDay - 1000)
		a, e := Date(day)
		b, e2 := Date(day + r.Intn(1000))
		if e != api.OK || e2 != api.OK {
			t.Fatalf("%d, %d", e, e2)
		}
		want := 0
		if before(a, b) {
			want = -1
		}
		if before(b, a) {
			t.Fatalf("%v comes before %v", b, a)
		}
		if n, e := Compare(a, b); n != want || e != api.OK {
			t.Fatalf("Compare(%v, %v): %d, %d, not %d", a, b, n, e, want)
		}
		if n, e := Compare(b, a); n != -want || e != api.OK {
			t.Fatalf("Compare(%v, %v): %d, %d, not %d", b, a, n, e, -want)
		}
	}
}

func TestCompareErrors(t *testing.T) { // P18.4, P1
	great, right := greatDates(), plain(2, 3, 4)
	check := func(a, b api.Date, want api.Errno) {
		if n, e := Compare(a, b); n != 0 || e != want {
			t.Errorf("Compare(%v, %v): %d, %d, not %d", a, b, n, e, want)
		}
	}
	for _, wrong := range wrongDates() {
		check(wrong, right, api.ErrArgument)
		check(right, wrong, api.ErrArgument)
		check(wrong, wrong, api.ErrArgument)
		for _, d := range great {
			check(d, wrong, api.ErrTooLarge)
			check(wrong, d, api.ErrArgument)
		}
	}
	for _, d := range great {
		check(d, right, api.ErrTooLarge)
		check(right, d, api.ErrTooLarge)
		check(d, d, api.ErrTooLarge)
	}
}

func TestAnyArguments(t *testing.T) { // P1, P18.2 to P18.4
	r := rand.New(rand.NewSource(1))
	values := append([]int{-20, 10, 11, 28, 29, 30, 31, 32, 177, 207, api.MaxDay - 1, api.MaxDay, api.MaxDay + 1}, years()...)
	pick := func() int { return values[r.Intn(len(values))] }
	small := func() int {
		if r.Intn(8) == 0 {
			return pick()
		}
		return r.Intn(32)
	}
	for range 200000 {
		d := api.Date{Calendar: r.Intn(4), Year: pick(), Month: small(), Day: small(), Leap: r.Intn(3) == 0}
		n, e := Day(d)
		valid := d.Day >= 1 && d.Day <= monthDaysBy(d)
		if back, _ := Date(n); (e == api.ErrArgument) == valid || (e == api.OK) != (back == d) || e != api.OK && n != 0 {
			t.Fatalf("Day(%v): %d, %d", d, n, e)
		}
		if n := MonthDays(d); n != monthDaysBy(d) {
			t.Fatalf("MonthDays(%v): %d", d, n)
		}
	}
}
