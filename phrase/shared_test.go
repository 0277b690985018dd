package phrase

import (
	"fmt"
	"math/rand"
	"slices"
	"strings"
	"testing"

	"pentaglot/api"
)

// shared is a system in which many days and minutes share phrases, with the indices of the phrases.
type shared struct {
	n             api.NumeralSystem
	p             api.Phrasing
	days, minutes index
}

// newShared returns a random system.
func newShared(seed int64) shared {
	source := rand.New(rand.NewSource(seed))
	kinds := 2 + source.Intn(12)
	s := shared{n: randomNumerals(source, kinds), p: randomPhrasing(source, kinds)}
	s.minutes = newIndex(1440, func(minute int) []string { return minuteBy(s.n, s.p, minute) })
	return s
}

// times returns the times with a phrase, by the definition; with more than MaxOutputs of them only some.
func (s shared) times(phrase []string) []int {
	var out []int
	for i := range len(phrase) + 1 {
		days, minutes := s.days.find(phrase[:i]), s.minutes.find(phrase[i:])
		if !s.p.DayFirst {
			days, minutes = s.days.find(phrase[i:]), s.minutes.find(phrase[:i])
		}
		for _, day := range days[:min(len(days), 300)] {
			for _, minute := range minutes[:min(len(minutes), 300)] {
				out = append(out, day*1440+minute)
			}
		}
	}
	slices.Sort(out)
	return out
}

// TestSharedMinutes compares what is read in random systems with the definition.
func TestSharedMinutes(t *testing.T) { // P20.3, P20.5
	t.Parallel()
	source := rand.New(rand.NewSource(5))
	for seed := range int64(120) {
		s := newShared(seed)
		if !Valid(s.n, s.p) {
			t.Fatalf("not valid: %v, %v", s.n, s.p)
		}
		for range 10 {
			for _, phrase := range changes(minuteBy(s.n, s.p, source.Intn(1440)), source) {
				minutes, e := ParseClock(s.n, s.p, phrase)
				checkFound(t, phrase, s.minutes.find(phrase), minutes, e)
			}
		}
		for _, minute := range s.minutes.groups() {
			phrase := minuteBy(s.n, s.p, minute)
			minutes, e := ParseClock(s.n, s.p, phrase)
			checkFound(t, phrase, s.minutes.find(phrase), minutes, e)
		}
	}
}

// TestSharedDays compares what is read in random systems with the definition, which is applied to all days. In the first three systems 256 and 257 days share phrases.
func TestSharedDays(t *testing.T) { // P20.3, P20.5
	t.Parallel()
	for _, seed := range []int64{95, 339, 396, 4, 7, 9, 12, 25} {
		t.Run(fmt.Sprint(seed), func(t *testing.T) {
			t.Parallel()
			s := newShared(seed)
			s.days = newIndex(1000000, func(day int) []string { return dayBy(s.n, s.p, day) })
			groups := s.days.groups()
			for _, size := range []int{256, 257} {
				if _, found := groups[size]; seed > 90 && !found {
					t.Errorf("no %d days share a phrase", size)
				}
			}
			source := rand.New(rand.NewSource(seed))
			for _, size := range []int{1, 2, 3, 10, 31, 100, 200, 254, 255, 256, 257, 258, 300, 1000, 5000} {
				if day, found := groups[size]; found {
					checkShared(t, s, day, source)
				}
			}
			for range 12 {
				checkShared(t, s, source.Intn(1000000), source)
			}
		})
	}
}

// checkShared checks what is read in the phrase of a day, in that of a time of this day, and in changed phrases.
func checkShared(t *testing.T, s shared, day int, source *rand.Rand) {
	phrase := dayBy(s.n, s.p, day)
	days, e := ParseDate(s.n, s.p, phrase)
	checkFound(t, phrase, s.days.find(phrase), days, e)
	for _, other := range changes(phrase, source)[:9] {
		days, e := ParseDate(s.n, s.p, other)
		checkFound(t, other, s.days.find(other), days, e)
	}
	for _, minute := range []int{s.minutes.groups()[1], source.Intn(1440)} {
		time, e := Time(s.n, s.p, day*1440+minute)
		if e != api.OK {
			t.Error(e)
		}
		for _, other := range append(changes(time, source)[:8], time) {
			times, e := ParseTime(s.n, s.p, other)
			checkFound(t, other, s.times(other), times, e)
		}
	}
}

// TestMostOutputs reads phrases that just as many or just more than MaxOutputs numbers share.
func TestMostOutputs(t *testing.T) { // P20.3: section Errors
	n := api.NumeralSystem{Base: 20, Digits: tokens("digit-", 20), Powers: strings.Fields("score great vast")}
	for i := range 16 {
		n.Digits[i] = "few"
	}
	p := api.Phrasing{Calendar: api.Cycle, Clock: api.Hours24, Days: tokens("day-", 20), Date: parts("YEAR MONTH DAY"), Time: parts("HOUR MINUTE")}
	for i := range 16 {
		p.Days[i] = "day"
	}
	more, some := n, n
	more.Digits = slices.Clone(n.Digits)
	more.Digits[16] = "few"
	some.Digits = tokens("digit-", 20)
	for i := range 4 {
		some.Digits[i] = "few"
	}
	for _, c := range []struct {
		name        string
		n           api.NumeralSystem
		read        func(api.NumeralSystem, api.Phrasing, []string) ([]int, api.Errno)
		text        string
		count, last int
	}{
		{"16 hours of 16 minutes", n, ParseClock, "few few", 256, 15*60 + 15},
		{"17 hours of 17 minutes", more, ParseClock, "few few", 289, 0},
		{"16 hours of 17 minutes", more, ParseClock, "few digit-t", 17, 16*60 + 19},
		{"16 rounds of 1 number and 16 names", some, ParseDate, "few digit-e day", 64, 0},
		{"4 rounds of 3 numbers and 16 names", some, ParseDate, "few few day", 192, 0},
		{"16 rounds of 12 numbers and 16 names", n, ParseDate, "few few day", 3328, 0},
		{"4 hours of 4 minutes on 16 days", some, ParseTime, "few few digit-e digit-e day", 256, 0},
		{"4 hours of 4 minutes on 64 days", some, ParseTime, "few few few digit-e day", 1024, 0},
		{"4 hours of 4 minutes on no day", some, ParseTime, "few few few few", 0, 0},
		{"4 hours of a minute on 64 days", some, ParseTime, "few digit-e few digit-e day", 256, 0},
	} {
		found, e := c.read(c.n, p, strings.Fields(c.text))
		if c.count > api.MaxOutputs {
			if len(found) != 0 || e != api.ErrTooLarge {
				t.Errorf("%s: %d, %d", c.name, len(found), e)
			}
		} else if len(found) != c.count || e != api.OK || !slices.IsSorted(found) || len(slices.Compact(slices.Clone(found))) != c.count || c.last > 0 && found[c.count-1] != c.last {
			t.Errorf("%s: %d, %d", c.name, len(found), e)
		}
	}
}

// TestRepeatedParts reads phrases whose repeated parts say the same and different numbers.
func TestRepeatedParts(t *testing.T) { // P20.3
	n, p := example()
	p.Calendar, p.Months, p.Date = api.Lunisolar, nil, parts("YEAR MONTH DAY LEAP=x YEAR MONTH DAY LEAP=y YEAR MONTH DAY LEAP=z")
	p.Time = parts("HOUR MINUTE PERIOD HOUR MINUTE PERIOD PERIOD")
	for text, want := range map[string][]int{"two six one two six one two six one": {856}, "two six one x two six one y two six one z": {885}, "two six one x two six one y two six one": nil, "two six one two six one two six one z": nil, "two six one two six one two six two": nil, "two six one two five one two six one": nil, "one six one two six one two six one": nil} {
		days, e := ParseDate(n, p, strings.Fields(text))
		checkFound(t, strings.Fields(text), want, days, e)
	}
	for text, want := range map[string][]int{"one two am one two am am": {62}, "one two am one two am pm": nil, "one two am one two pm am": nil, "one two am one one am am": nil, "one two am two two am am": nil} {
		minutes, e := ParseClock(n, p, strings.Fields(text))
		checkFound(t, strings.Fields(text), want, minutes, e)
	}
}
