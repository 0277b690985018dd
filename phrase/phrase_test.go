package phrase

import (
	"math"
	"math/rand"
	"reflect"
	"slices"
	"strings"
	"testing"

	"pentaglot/api"
)

// systems returns numeral systems of both bases in which no two numbers have the same words.
func systems() []api.NumeralSystem {
	plain, _ := example()
	joined := plain
	joined.Joiner, joined.SmallFirst = "and", true
	less := plain
	less.Subtract, less.Less, less.OmitOne = 2, "from", true
	twenty := api.NumeralSystem{Base: 20, Digits: tokens("digit-", 20), Powers: strings.Fields("score great vast"), Joiner: "and", Subtract: 9, Less: "off"}
	return []api.NumeralSystem{plain, joined, less, twenty}
}

// someDays returns the days of the first years, the last ones, and some in between.
func someDays() []int {
	var out []int
	for day := range 800 {
		out = append(out, day)
	}
	for day := 800; day < api.MaxDay-100; day += 4999 {
		out = append(out, day)
	}
	for day := api.MaxDay - 100; day <= api.MaxDay; day++ {
		out = append(out, day)
	}
	return out
}

// checkSaid compares the result of a function that expresses numbers with a text.
func checkSaid(t *testing.T, number int, want string, got []string, e api.Errno) {
	t.Helper()
	if e != api.OK || strings.Join(got, " ") != want {
		t.Errorf("%d: %q, %d, not %q", number, got, e, want)
	}
}

func TestExamples(t *testing.T) { // P20.2, P20.3
	n, p := example()
	got, e := Date(n, p, 31)
	checkSaid(t, 31, "one m2 of zero", got, e)
	got, e = Clock(n, p, 780)
	checkSaid(t, 780, "one past zero pm", got, e)
	got, e = Time(n, p, 31*1440+780)
	checkSaid(t, 31*1440+780, "one m2 of zero one past zero pm", got, e)
	for text, want := range map[string][]int{"one m2 of zero": {31}, "three ten one m2 of zero": nil, "one m2 of nine thousand": nil, "two ten nine m1 two of zero": nil, "three ten m1 of zero": {29}} {
		days, e := ParseDate(n, p, strings.Fields(text))
		checkFound(t, strings.Fields(text), want, days, e)
	}
}

func TestDate(t *testing.T) { // P20.2
	n, p := example()
	lunar, cycle := p, p
	lunar.Calendar, lunar.Date = api.Lunisolar, parts("LEAP=again DAY MONTH YEAR")
	cycle.Calendar, cycle.Months, cycle.Days, cycle.Date = api.Cycle, nil, tokens("", 20), parts("LEAP=again DAY x MONTH YEAR x")
	unnamed := p
	unnamed.Months, unnamed.Date = nil, parts("MONTH DAY YEAR MONTH LEAP=again")
	for _, c := range []struct {
		p    api.Phrasing
		want map[int]string
	}{
		{p, map[int]string{0: "one m1 of zero", 30: "three ten one m1 of zero", 31: "one m2 of zero", 364: "two ten nine m12 of zero", 365: "one m1 of one", 1825: "three ten m12 of four", api.MaxDay: "two ten seven m11 of two thousand seven hundred three ten seven"}},
		{unnamed, map[int]string{0: "one one zero one", 31: "two one zero two", 364: "one ten two two ten nine zero one ten two"}},
		{lunar, map[int]string{0: "one m1 zero", 353: "two ten nine m12 zero", 354: "one m1 one", 708: "one m1 two", 884: "two ten nine m6 two", 885: "again one m6 two", 914: "again three ten m6 two", 915: "one m7 two", api.MaxDay: "six m5 two thousand seven hundred three ten nine"}},
		{cycle, map[int]string{0: "a x one zero x", 13: "n x one zero x", 19: "t x seven zero x", 20: "a x eight zero x", 259: "t x one ten three zero x", 260: "a x one one x", api.MaxDay: "t x one three thousand eight hundred four ten six x"}},
	} {
		for day, want := range c.want {
			got, e := Date(n, c.p, day)
			checkSaid(t, day, want, got, e)
			days, e := ParseDate(n, c.p, got)
			checkFound(t, got, []int{day}, days, e)
		}
	}
}

func TestClock(t *testing.T) { // P20.2
	n, p := example()
	plain, named, watch := p, p, p
	plain.Clock, plain.Periods, plain.Time = api.Hours24, nil, parts("HOUR MINUTE")
	named.Clock, named.Periods, named.Time = api.Hours24, []string{"o'clock"}, parts("at HOUR PERIOD MINUTE PERIOD")
	watch.Clock, watch.Periods, watch.Time = api.Watches, tokens("w", 6), parts("MINUTE MINUTE PERIOD HOUR")
	for _, c := range []struct {
		p    api.Phrasing
		want map[int]string
	}{
		{p, map[int]string{0: "one ten two past zero am", 1: "one ten two past one am", 59: "one ten two past five ten nine am", 60: "one past zero am", 719: "one ten one past five ten nine am", 720: "one ten two past zero pm", 780: "one past zero pm", 1439: "one ten one past five ten nine pm"}},
		{plain, map[int]string{0: "zero zero", 61: "one one", 720: "one ten two zero", 1439: "two ten three five ten nine"}},
		{named, map[int]string{0: "at zero o'clock zero o'clock", 1439: "at two ten three o'clock five ten nine o'clock"}},
		{watch, map[int]string{0: "zero zero wa zero", 241: "one one wb zero", 725: "five five wd zero", 1439: "five ten nine five ten nine wf three"}},
	} {
		for minute, want := range c.want {
			got, e := Clock(n, c.p, minute)
			checkSaid(t, minute, want, got, e)
			minutes, e := ParseClock(n, c.p, got)
			checkFound(t, got, []int{minute}, minutes, e)
		}
	}
}

func TestTime(t *testing.T) { // P20.2
	n, p := example()
	for time, want := range map[int]string{0: "one m1 of zero one ten two past zero am", 1439: "one m1 of zero one ten one past five ten nine pm", 1440: "two m1 of zero one ten two past zero am", api.MaxTime: "two ten seven m11 of two thousand seven hundred three ten seven one ten one past five ten nine pm"} {
		got, e := Time(n, p, time)
		checkSaid(t, time, want, got, e)
		times, e := ParseTime(n, p, got)
		checkFound(t, got, []int{time}, times, e)
	}
	p.DayFirst = false
	for time, want := range map[int]string{0: "one ten two past zero am one m1 of zero", 1439: "one ten one past five ten nine pm one m1 of zero", 1440: "one ten two past zero am two m1 of zero"} {
		got, e := Time(n, p, time)
		checkSaid(t, time, want, got, e)
		times, e := ParseTime(n, p, got)
		checkFound(t, got, []int{time}, times, e)
	}
}

func TestLimits(t *testing.T) { // P20.2: section Errors
	n, p := example()
	for _, q := range append(phrasings(), p) {
		for _, c := range []struct {
			say      func(api.NumeralSystem, api.Phrasing, int) ([]string, api.Errno)
			greatest int
		}{{Date, 999999}, {Clock, 1439}, {Time, 1439999999}} {
			for number, want := range map[int]api.Errno{math.MinInt: api.ErrArgument, -1440: api.ErrArgument, -1: api.ErrArgument, 0: api.OK, c.greatest: api.OK, c.greatest + 1: api.ErrTooLarge, c.greatest + 1440: api.ErrTooLarge, math.MaxInt: api.ErrTooLarge} {
				if list, e := c.say(n, q, number); e != want || (e == api.OK) != (len(list) > 0) {
					t.Errorf("%d: %q, %d", number, list, e)
				}
			}
		}
	}
}

// TestDefinition compares phrases with the definition, and reads them.
func TestDefinition(t *testing.T) { // P20.2, P20.3, P20.5
	for _, n := range systems() {
		for _, p := range phrasings() {
			for i, day := range someDays() {
				got, e := Date(n, p, day)
				checkSaid(t, day, strings.Join(dayBy(n, p, day), " "), got, e)
				if i%5 == 0 {
					days, e := ParseDate(n, p, got)
					checkFound(t, got, []int{day}, days, e)
				}
			}
			for minute := range 1440 {
				got, e := Clock(n, p, minute)
				checkSaid(t, minute, strings.Join(minuteBy(n, p, minute), " "), got, e)
				if minute%7 == 0 {
					minutes, e := ParseClock(n, p, got)
					checkFound(t, got, []int{minute}, minutes, e)
				}
			}
		}
	}
}

func TestTimeDefinition(t *testing.T) { // P20.2, P20.3, P20.5
	source := rand.New(rand.NewSource(3))
	for _, n := range systems() {
		for _, p := range phrasings() {
			for range 30 {
				day, minute := source.Intn(1000000), source.Intn(1440)
				lists := [][]string{dayBy(n, p, day), minuteBy(n, p, minute)}
				if !p.DayFirst {
					slices.Reverse(lists)
				}
				time := day*1440 + minute
				got, e := Time(n, p, time)
				checkSaid(t, time, strings.Join(slices.Concat(lists...), " "), got, e)
				times, e := ParseTime(n, p, got)
				checkFound(t, got, []int{time}, times, e)
			}
		}
	}
}

func TestNoPhrase(t *testing.T) { // P20.3
	n, p := example()
	lunar := p
	lunar.Calendar, lunar.Months, lunar.Date = api.Lunisolar, nil, parts("YEAR MONTH LEAP=again DAY LEAP=indeed")
	for _, c := range []struct {
		p     api.Phrasing
		texts []string
	}{
		{p, []string{"", "one", "m1", "of", "one m1 of", "one m1 zero", "m1 of zero", "one of zero", "zero m1 of zero", "three ten two m1 of zero", "three ten m12 of zero", "three ten m12 of one hundred two ten eight", "one m0 of zero", "one m13 of zero", "one one of zero", "one m1 m1 of zero", "one m1 of of zero", "one m1 of zero zero", "one m1 of zero x", "x one m1 of zero", "one m1 of two thousand seven hundred three ten eight", "two ten eight m11 of two thousand seven hundred three ten seven", "one m1 of nine thousand nine hundred nine ten nine", "ten m1 of zero", "one m1 of zero one past zero am", "One m1 of zero", "one m1 of zero "}},
		{lunar, []string{"one six again one", "two six again one", "two six one indeed", "one six again one indeed", "two five again one indeed", "two seven again one indeed", "two six indeed one again", "two six again three ten one indeed", "zero zero one", "zero two three ten", "zero one ten three one", "again again", "two again one indeed"}},
	} {
		for _, text := range c.texts {
			days, e := ParseDate(n, c.p, strings.Split(text, " "))
			checkFound(t, strings.Split(text, " "), nil, days, e)
		}
	}
	days, e := ParseDate(n, lunar, strings.Fields("two six again one indeed"))
	checkFound(t, []string{"the intercalary month"}, []int{885}, days, e)
	for _, text := range []string{"", "one", "one past", "one past zero", "past zero am", "one past am", "one zero am", "zero past zero am", "one ten three past zero pm", "one past six ten am", "one past zero am am", "one past zero noon", "am one past zero", "one past zero am x", "x one past zero am", "one past past zero am", "one past one one am", "two ten past zero am"} {
		minutes, e := ParseClock(n, p, strings.Split(text, " "))
		checkFound(t, strings.Split(text, " "), nil, minutes, e)
	}
	for _, text := range []string{"", "one m1 of zero", "one past zero am", "one past zero am one m1 of zero", "one m1 of zero one past zero", "one m1 of zero zero past zero am", "zero m1 of zero one past zero am", "one m1 of zero one past zero am x", "one m1 of zero x one past zero am", "one m1 of three thousand one past zero am"} {
		times, e := ParseTime(n, p, strings.Split(text, " "))
		checkFound(t, strings.Split(text, " "), nil, times, e)
	}
}

func TestNoTokens(t *testing.T) { // P20.3, P20.4
	n, p := example()
	for _, q := range append(phrasings(), p) {
		for _, list := range [][]string{nil, {}} {
			for _, read := range []func(api.NumeralSystem, api.Phrasing, []string) ([]int, api.Errno){ParseDate, ParseClock, ParseTime} {
				if found, e := read(n, q, list); len(found) != 0 || e != api.OK {
					t.Errorf("%v, %d", found, e)
				}
			}
		}
	}
}

// TestLongLists reads lists of very many and of very long tokens.
func TestLongLists(t *testing.T) { // P1, P20.3, P20.4
	n, p := example()
	long := strings.Repeat("x", 1<<20)
	units := []api.Unit{{Name: "one", Size: 1}, {Name: "ten", Size: 10}}
	for _, list := range [][]string{
		slices.Repeat([]string{"one"}, 1<<18), slices.Repeat([]string{"one", "ten"}, 1<<18), slices.Repeat([]string{"one", "m1", "of", "zero"}, 1<<16), slices.Repeat([]string{"one", "past"}, 1<<17), slices.Repeat([]string{long}, 100),
		append(strings.Fields("one m1 of zero"), slices.Repeat([]string{"zero"}, 1<<18)...), append(slices.Repeat([]string{"one"}, 1<<18), strings.Fields("m1 of zero one past zero am")...),
	} {
		for _, q := range append(phrasings(), p) {
			for _, read := range []func(api.NumeralSystem, api.Phrasing, []string) ([]int, api.Errno){ParseDate, ParseClock, ParseTime} {
				if found, e := read(n, q, list); len(found) != 0 || e != api.OK {
					t.Errorf("%v, %d", found, e)
				}
			}
		}
		if found, e := ParseAmount(n, units, list); len(found) != 0 || e != api.OK {
			t.Errorf("%v, %d", found, e)
		}
	}
}

// TestUnchanged calls all functions, changes their results, and looks at the arguments and at the results of the same calls.
func TestUnchanged(t *testing.T) { // section Rules of DOC.md
	n, p := example()
	m, q := example()
	units, other := someUnits(), someUnits()
	list := strings.Fields("one m1 of zero one past zero am")
	for range 2 {
		for i, want := range []string{"three ten m1 of one", "one ten two past five pm", "three ten m1 of one one ten two past five pm", "one day one hour five minute"} {
			said, e := []func() ([]string, api.Errno){
				func() ([]string, api.Errno) { return Date(n, p, 394) },
				func() ([]string, api.Errno) { return Clock(n, p, 725) },
				func() ([]string, api.Errno) { return Time(n, p, 394*1440+725) },
				func() ([]string, api.Errno) { return Amount(n, units, 1505) },
			}[i]()
			checkSaid(t, i, want, said, e)
			said = append(said[:cap(said)], "y")
			for k := range said {
				said[k] = "x"
			}
		}
		found, _ := ParseTime(n, p, list)
		days, _ := ParseDate(n, p, list[:4])
		minutes, _ := ParseClock(n, p, list[4:])
		found[0]++
		days[0]++
		minutes[0]++
	}
	if !reflect.DeepEqual(n, m) || !reflect.DeepEqual(p, q) || !slices.Equal(units, other) || strings.Join(list, " ") != "one m1 of zero one past zero am" {
		t.Error(n, p, units, list)
	}
}
