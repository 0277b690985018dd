package phrase

import (
	"fmt"
	"math"
	"slices"
	"strings"
	"testing"

	"pentaglot/api"
)

// wrongTokens are no tokens.
func wrongTokens() []string {
	return []string{"", " ", "a b", "a ", " a", "\x00", "a\x1f", "\n", "\ta", "\xff", "a\xc3", "\xed\xa0\x80"}
}

// change is a change of a phrasing, by what is wrong or right with its result.
type change map[string]func(p *api.Phrasing)

// namesOf returns functions that find the lists of names of a phrasing.
func namesOf() map[string]func(p *api.Phrasing) *[]string {
	return map[string]func(p *api.Phrasing) *[]string{
		"Months":  func(p *api.Phrasing) *[]string { return &p.Months },
		"Days":    func(p *api.Phrasing) *[]string { return &p.Days },
		"Periods": func(p *api.Phrasing) *[]string { return &p.Periods },
	}
}

// wrongForAll returns changes that make every phrasing of phrasings wrong.
func wrongForAll() change {
	out := change{}
	for _, number := range []int{math.MinInt, -3, -1, 0, 4, 5, 100, math.MaxInt} {
		out[fmt.Sprint("Calendar ", number)] = func(p *api.Phrasing) { p.Calendar = number }
		out[fmt.Sprint("Clock ", number)] = func(p *api.Phrasing) { p.Clock = number }
	}
	for _, kind := range []int{math.MinInt, -1, 0, 6, 7, 8, 9, math.MaxInt} {
		for _, word := range []string{"", "x"} {
			out[fmt.Sprintf("a part of kind %d with %q in Date", kind, word)] = func(p *api.Phrasing) {
				p.Date = append(slices.Clone(p.Date), api.PhrasePart{Kind: kind, Word: word})
			}
		}
	}
	for _, kind := range []int{math.MinInt, -1, 0, 2, 3, 4, 5, 9, math.MaxInt} {
		for _, word := range []string{"", "x"} {
			out[fmt.Sprintf("a part of kind %d with %q in Time", kind, word)] = func(p *api.Phrasing) {
				p.Time = append([]api.PhrasePart{{Kind: kind, Word: word}}, p.Time...)
			}
		}
	}
	for _, kind := range []int{api.PartYear, api.PartMonth, api.PartDay} {
		out[fmt.Sprint("Date without kind ", kind)] = func(p *api.Phrasing) { p.Date = without(p.Date, kind) }
		out[fmt.Sprint("Date with a word in kind ", kind)] = func(p *api.Phrasing) { p.Date = append(slices.Clone(p.Date), api.PhrasePart{Kind: kind, Word: "x"}) }
	}
	for _, kind := range []int{api.PartHour, api.PartMinute} {
		out[fmt.Sprint("Time without kind ", kind)] = func(p *api.Phrasing) { p.Time = without(p.Time, kind) }
		out[fmt.Sprint("Time with a word in kind ", kind)] = func(p *api.Phrasing) { p.Time = append(slices.Clone(p.Time), api.PhrasePart{Kind: kind, Word: "x"}) }
	}
	out["a word in PartPeriod"] = func(p *api.Phrasing) {
		p.Time = append(slices.Clone(p.Time), api.PhrasePart{Kind: api.PartPeriod, Word: "x"})
	}
	for _, word := range wrongTokens() {
		out[fmt.Sprintf("the word %q in Date", word)] = func(p *api.Phrasing) { p.Date = append(slices.Clone(p.Date), api.PhrasePart{Kind: 1, Word: word}) }
		out[fmt.Sprintf("the first word %q in Date", word)] = func(p *api.Phrasing) { p.Date = append([]api.PhrasePart{{Kind: 1, Word: word}}, p.Date...) }
		out[fmt.Sprintf("the leap word %q", word)] = func(p *api.Phrasing) { p.Date = append(slices.Clone(p.Date), api.PhrasePart{Kind: 5, Word: word}) }
		out[fmt.Sprintf("the word %q in Time", word)] = func(p *api.Phrasing) { p.Time = append(slices.Clone(p.Time), api.PhrasePart{Kind: 1, Word: word}) }
	}
	for name, list := range namesOf() {
		for _, count := range []int{1, 3, 5, 7, 11, 13, 19, 21, 100} {
			if name != "Periods" || count != 1 {
				out[fmt.Sprint(count, " ", name)] = func(p *api.Phrasing) { *list(p) = slices.Repeat([]string{"x"}, count) }
			}
		}
	}
	out["no Date"] = func(p *api.Phrasing) { p.Date = nil }
	out["no Time"] = func(p *api.Phrasing) { p.Time = []api.PhrasePart{} }
	out["13 parts in Date"] = func(p *api.Phrasing) { p.Date = filled(p.Date, 13) }
	out["13 parts in Time"] = func(p *api.Phrasing) { p.Time = filled(p.Time, 13) }
	out["1000 parts in Date"] = func(p *api.Phrasing) { p.Date = filled(p.Date, 1000) }
	return out
}

// rightForAll returns changes that keep every phrasing of phrasings valid.
func rightForAll() change {
	return change{
		"no change":        func(p *api.Phrasing) {},
		"the other order":  func(p *api.Phrasing) { p.DayFirst = !p.DayFirst },
		"12 parts in Date": func(p *api.Phrasing) { p.Date = filled(p.Date, 12) },
		"12 parts in Time": func(p *api.Phrasing) { p.Time = filled(p.Time, 12) },
		"Date backwards":   func(p *api.Phrasing) { p.Date = slices.Clone(p.Date); slices.Reverse(p.Date) },
		"Time backwards":   func(p *api.Phrasing) { p.Time = slices.Clone(p.Time); slices.Reverse(p.Time) },
		"Date said twice":  func(p *api.Phrasing) { p.Date = append(slices.Clone(p.Date), without(p.Date, api.PartWord)...) },
		"Time said twice":  func(p *api.Phrasing) { p.Time = append(slices.Clone(p.Time), p.Time...) },
		"no words in Date": func(p *api.Phrasing) { p.Date = without(p.Date, api.PartWord) },
		"no words in Time": func(p *api.Phrasing) { p.Time = without(p.Time, api.PartWord) },
		"a second leap":    func(p *api.Phrasing) { p.Date = append(parts("LEAP=really"), p.Date...) },
		"a word =":         func(p *api.Phrasing) { p.Date = append(parts("==="), p.Date...) },
		"a Hebrew word":    func(p *api.Phrasing) { p.Time = append(parts("שעה"), p.Time...) },
		"a long word":      func(p *api.Phrasing) { p.Time = append(parts(strings.Repeat("x", 5000)), p.Time...) },
		"equal names":      func(p *api.Phrasing) { equalNames(p, "x") },
		"equal odd names":  func(p *api.Phrasing) { equalNames(p, "\u0085") },
	}
}

// without returns the parts that are not of a kind.
func without(list []api.PhrasePart, kind int) []api.PhrasePart {
	return slices.DeleteFunc(slices.Clone(list), func(part api.PhrasePart) bool { return part.Kind == kind })
}

// filled returns so many parts, the last ones of which are words.
func filled(list []api.PhrasePart, count int) []api.PhrasePart {
	return append(slices.Clone(list), slices.Repeat([]api.PhrasePart{{Kind: api.PartWord, Word: "x"}}, count-len(list))...)
}

// equalNames makes all names of a phrasing equal.
func equalNames(p *api.Phrasing, name string) {
	for _, list := range namesOf() {
		*list(p) = slices.Repeat([]string{name}, len(*list(p)))
	}
}

// checkRefused checks that all functions refuse a phrasing.
func checkRefused(t *testing.T, name string, n api.NumeralSystem, p api.Phrasing) {
	if Valid(n, p) {
		t.Errorf("%s: valid", name)
	}
	for _, number := range []int{math.MinInt, -1, 0, 1, 1439, 1440, api.MaxDay + 1, api.MaxTime + 1, math.MaxInt} {
		for _, say := range []func(api.NumeralSystem, api.Phrasing, int) ([]string, api.Errno){Date, Clock, Time} {
			if list, e := say(n, p, number); len(list) != 0 || e != api.ErrArgument {
				t.Errorf("%s: %d is %q, %d", name, number, list, e)
			}
		}
	}
	for _, text := range []string{"", "x", "one m1 of zero", "one past zero am", "one m1 of zero one past zero am"} {
		for _, read := range []func(api.NumeralSystem, api.Phrasing, []string) ([]int, api.Errno){ParseDate, ParseClock, ParseTime} {
			if list, e := read(n, p, strings.Fields(text)); len(list) != 0 || e != api.ErrArgument {
				t.Errorf("%s: %q is %v, %d", name, text, list, e)
			}
		}
	}
}

func TestValid(t *testing.T) { // P20.1: section Errors
	n, p := example()
	for _, q := range append(phrasings(), p) {
		for name, change := range rightForAll() {
			changed := q
			change(&changed)
			if !Valid(n, changed) {
				t.Errorf("%s: not valid: %v", name, changed)
			}
		}
		for name, change := range wrongForAll() {
			changed := q
			change(&changed)
			checkRefused(t, name, n, changed)
		}
	}
	checkRefused(t, "the zero value", n, api.Phrasing{})
}

func TestNumerals(t *testing.T) { // P20.1: section Errors
	n, p := example()
	for name, change := range map[string]func(n *api.NumeralSystem){
		"the zero value":     func(n *api.NumeralSystem) { *n = api.NumeralSystem{} },
		"base 11":            func(n *api.NumeralSystem) { n.Base = 11 },
		"base 20":            func(n *api.NumeralSystem) { n.Base = 20 },
		"9 digits":           func(n *api.NumeralSystem) { n.Digits = n.Digits[:9] },
		"2 powers":           func(n *api.NumeralSystem) { n.Powers = n.Powers[:2] },
		"an empty digit":     func(n *api.NumeralSystem) { n.Digits = slices.Clone(n.Digits); n.Digits[9] = "" },
		"a digit with blank": func(n *api.NumeralSystem) { n.Digits = slices.Clone(n.Digits); n.Digits[0] = "a b" },
		"a wrong power":      func(n *api.NumeralSystem) { n.Powers = slices.Clone(n.Powers); n.Powers[2] = "\xff" },
		"a wrong Joiner":     func(n *api.NumeralSystem) { n.Joiner = " " },
		"a wrong Less":       func(n *api.NumeralSystem) { n.Less = "\n" },
		"Subtract -1":        func(n *api.NumeralSystem) { n.Subtract, n.Less = -1, "x" },
		"Subtract 5":         func(n *api.NumeralSystem) { n.Subtract, n.Less = 5, "x" },
		"Subtract, no Less":  func(n *api.NumeralSystem) { n.Subtract = 1 },
	} {
		changed := n
		change(&changed)
		checkRefused(t, name, changed, p)
		checkNoAmounts(t, name, changed, []api.Unit{{Name: "u", Size: 1}})
	}
}

func TestNames(t *testing.T) { // P20.1
	n, _ := example()
	for _, p := range phrasings() {
		for name, list := range namesOf() {
			for i := range *list(&p) {
				for _, word := range wrongTokens() {
					changed := p
					*list(&changed) = slices.Clone(*list(&p))
					(*list(&changed))[i] = word
					if Valid(n, changed) {
						t.Errorf("%q as number %d of %s: valid", word, i, name)
					}
				}
			}
		}
	}
}

// TestCombinations tries names of each number with each calendar, clock and set of parts.
func TestCombinations(t *testing.T) { // P20.1
	n, _ := example()
	for kind := -1; kind <= 4; kind++ {
		for _, months := range []int{0, 1, 11, 12, 13, 20} {
			for _, days := range []int{0, 1, 12, 19, 20, 21} {
				for _, leap := range []bool{false, true} {
					p := api.Phrasing{Calendar: kind, Clock: 1, Months: tokens("m", months), Days: tokens("d", days), Date: parts("YEAR MONTH DAY"), Time: parts("HOUR MINUTE")}
					if leap {
						p.Date = parts("YEAR LEAP=x MONTH DAY")
					}
					want := kind == 1 && (months == 0 || months == 12) && days == 0 ||
						kind == 2 && (months == 0 || months == 12) && days == 0 && leap ||
						kind == 3 && months == 0 && days == 20
					if Valid(n, p) != want {
						t.Errorf("calendar %d, %d months, %d days, leap %t: not %t", kind, months, days, leap, want)
					}
				}
			}
		}
	}
	for clock := -1; clock <= 4; clock++ {
		for periods := range 9 {
			for _, named := range []bool{false, true} {
				p := api.Phrasing{Calendar: 1, Clock: clock, Periods: tokens("p", periods), Date: parts("YEAR MONTH DAY"), Time: parts("HOUR MINUTE")}
				if named {
					p.Time = parts("HOUR PERIOD MINUTE")
				}
				want := clock == 1 && (periods == 1 || periods == 0 && !named) || clock == 2 && periods == 2 && named || clock == 3 && periods == 6 && named
				if Valid(n, p) != want {
					t.Errorf("clock %d, %d periods, named %t: not %t", clock, periods, named, want)
				}
			}
		}
	}
}
