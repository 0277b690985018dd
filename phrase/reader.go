package phrase

import (
	"iter"

	"pentaglot/api"
	"pentaglot/clock"
	"pentaglot/numeral"
)

// longestWords is the number of words that a number can have: a digit and, for each of the three powers, a digit, the power and a joiner.
const longestWords = 10

// unknown is the value of a kind of parts that has not been read.
const unknown = -1

// greatest holds the greatest values of the kinds that numerals can express. No calendar has shorter years than the 260 days of a round.
var greatest = [...]int{api.PartYear: api.MaxDay / 260, api.PartMonth: 13, api.PartDay: 31, api.PartHour: 23, api.PartMinute: 59}

// place is a part and the number of the tokens that are left for it and all that follows.
type place struct {
	part api.PhrasePart
	left int
}

// reader reads phrases that begin anywhere in one list of tokens; the number of tokens that are left tells where.
type reader struct {
	scheme
	known map[place]map[int]int
}

// phrases is a kind of phrases: its parts, and the number that values of the parts express, if there is one.
type phrases struct {
	parts  []api.PhrasePart
	number func(v values) (int, api.Errno)
}

// newReader returns a reader for phrases of one list of tokens.
func newReader(s scheme) reader { return reader{s, map[place]map[int]int{}} }

// days returns the phrases of days.
func (s scheme) days() phrases {
	return phrases{s.Date, func(v values) (int, api.Errno) {
		return dayOf(api.Date{Calendar: s.Calendar, Year: v[api.PartYear], Month: v[api.PartMonth], Day: v[api.PartDay], Leap: v[api.PartLeap] == 1})
	}}
}

// minutes returns the phrases of minutes of the day.
func (s scheme) minutes() phrases {
	return phrases{s.Time, func(v values) (int, api.Errno) {
		// A clock with one period may do without its name.
		return clock.Minute(api.ClockTime{Clock: s.Clock, Period: max(v[api.PartPeriod], 0), Hour: v[api.PartHour], Minute: v[api.PartMinute]})
	}}
}

// whole returns the numbers whose phrase is tokens; of more than MaxOutputs of them only some.
func (r reader) whole(p phrases, tokens []string) map[int]bool {
	found := map[int]bool{}
	isEnd := func(rest []string) bool { return len(rest) == 0 }
	for v := range r.readings(p.parts, tokens, isEnd) {
		if number, e := p.number(v); e == api.OK {
			found[number] = true
		}
		if len(found) > api.MaxOutputs {
			break
		}
	}
	return found
}

// times returns the times whose phrase is tokens; of more than MaxOutputs of them only some.
func (r reader) times(tokens []string) map[int]bool {
	first, second, firstSize, secondSize := r.days(), r.minutes(), dayMinutes, 1
	if !r.DayFirst {
		first, second, firstSize, secondSize = second, first, secondSize, firstSize
	}
	seconds := map[int]map[int]bool{} // by the number of tokens
	isSecond := func(rest []string) bool {
		if _, done := seconds[len(rest)]; !done {
			seconds[len(rest)] = r.whole(second, rest)
		}
		return len(seconds[len(rest)]) > 0
	}
	found := map[int]bool{}
	for v, rest := range r.readings(first.parts, tokens, isSecond) {
		a, e := first.number(v)
		if e != api.OK {
			continue
		}
		for b := range seconds[len(rest)] {
			found[a*firstSize+b*secondSize] = true
		}
		if len(found) > api.MaxOutputs {
			break
		}
	}
	return found
}

// readings yields the values for which tokens begin with the tokens of parts, each with the tokens behind those, if these are accepted. There may be no day or minute with the values.
func (r reader) readings(parts []api.PhrasePart, tokens []string, accept func(rest []string) bool) iter.Seq2[values, []string] {
	return func(yield func(values, []string) bool) {
		fits := r.fits(accept)
		var try func(parts []api.PhrasePart, rest []string, v values) bool
		try = func(parts []api.PhrasePart, rest []string, v values) bool {
			if !fits(parts, rest) {
				return true
			}
			if len(parts) == 0 {
				return yield(v, rest)
			}
			kind, options := parts[0].Kind, r.options(parts[0], rest)
			if v[kind] != unknown {
				size, ok := options[v[kind]]
				return !ok || try(parts[1:], rest[size:], v)
			}
			for value, size := range options {
				v[kind] = value
				if !try(parts[1:], rest[size:], v) {
					return false
				}
			}
			return true
		}
		var v values
		for kind := range v {
			v[kind] = unknown
		}
		try(parts, tokens, v)
	}
}

// fits returns the function that reports whether rest consists of tokens of parts, with any values, and of tokens that are accepted. It keeps dead ends from being tried with each of many values.
func (r reader) fits(accept func(rest []string) bool) func(parts []api.PhrasePart, rest []string) bool {
	known := map[[2]int]bool{} // by the numbers of parts and tokens
	var fits func(parts []api.PhrasePart, rest []string) bool
	fits = func(parts []api.PhrasePart, rest []string) bool {
		if len(parts) == 0 {
			return accept(rest)
		}
		here := [2]int{len(parts), len(rest)}
		if found, ok := known[here]; ok {
			return found
		}
		found := false
		for _, size := range r.options(parts[0], rest) {
			found = found || fits(parts[1:], rest[size:])
		}
		known[here] = found
		return found
	}
	return fits
}

// options returns the values of a part with whose tokens rest begins, each with the number of these tokens.
func (r reader) options(part api.PhrasePart, rest []string) map[int]int {
	here := place{part, len(rest)}
	if found, ok := r.known[here]; ok {
		return found
	}
	found := map[int]int{}
	names, first := r.names(part)
	for i, name := range names {
		if name == "" {
			found[first+i] = 0
		} else if len(rest) > 0 && rest[0] == name {
			found[first+i] = 1
		}
	}
	if len(names) == 0 {
		found = r.numbers(rest, greatest[part.Kind])
	}
	r.known[here] = found
	return found
}

// numbers returns the numbers up to limit with whose words rest begins, each with the number of its words.
func (r reader) numbers(rest []string, limit int) map[int]int {
	found := map[int]int{}
	for size := 1; size <= min(longestWords, len(rest)); size++ {
		for _, n := range numeral.Parse(r.NumeralSystem, rest[:size]) {
			if n <= limit {
				found[n] = size
			}
		}
	}
	return found
}
