package phrase

import (
	"cmp"
	"hash/fnv"
	"io"
	"math/rand"
	"slices"
	"strings"
	"testing"

	"pentaglot/api"
	"pentaglot/calendar"
	"pentaglot/lunisolar"
	"pentaglot/numeral"
)

// example returns the numeral system and the phrasing of the chapter's examples.
func example() (api.NumeralSystem, api.Phrasing) {
	n := api.NumeralSystem{Base: 10, Digits: strings.Fields("zero one two three four five six seven eight nine"), Powers: strings.Fields("ten hundred thousand")}
	p := api.Phrasing{
		Calendar: api.Solar, Clock: api.Hours12, DayFirst: true,
		Date:    parts("DAY MONTH of YEAR"),
		Time:    parts("HOUR past MINUTE PERIOD"),
		Months:  strings.Fields("m1 m2 m3 m4 m5 m6 m7 m8 m9 m10 m11 m12"),
		Periods: strings.Fields("am pm"),
	}
	return n, p
}

// parts returns the parts of a text such as "DAY LEAP=again of YEAR".
func parts(text string) []api.PhrasePart {
	var out []api.PhrasePart
	kinds := map[string]int{"YEAR": 2, "MONTH": 3, "DAY": 4, "LEAP": 5, "HOUR": 6, "MINUTE": 7, "PERIOD": 8}
	for _, word := range strings.Fields(text) {
		name, token, _ := strings.Cut(word, "=")
		kind, found := kinds[name]
		if !found {
			kind, token = 1, word
		}
		out = append(out, api.PhrasePart{Kind: kind, Word: token})
	}
	return out
}

// tokens returns so many tokens with numbers behind a letter.
func tokens(letter string, count int) []string {
	out := []string{}
	for i := range count {
		out = append(out, letter+string(rune('a'+i)))
	}
	return out
}

// phrasings returns a phrasing for each calendar with each clock, with and without the names that may be left out, and with either order.
func phrasings() []api.Phrasing {
	var out []api.Phrasing
	for kind := 1; kind <= 3; kind++ {
		for clock := 1; clock <= 3; clock++ {
			for bits := range 4 {
				p := api.Phrasing{Calendar: kind, Clock: clock, Date: parts("on LEAP=again DAY of MONTH , YEAR"), Time: parts("at HOUR : MINUTE"), DayFirst: bits&1 > 0}
				if kind == 3 {
					p.Days = tokens("day-", 20)
				} else if bits&2 > 0 {
					p.Months = tokens("month-", 12)
				}
				if clock > 1 || bits&2 > 0 {
					p.Time = parts("at HOUR : MINUTE PERIOD")
					p.Periods = tokens("period-", []int{0, 1, 2, 6}[clock])
				}
				out = append(out, p)
			}
		}
	}
	return out
}

// wordsBy returns the words of a number, which layer 15 tests.
func wordsBy(n api.NumeralSystem, number int) []string {
	words, _ := numeral.Words(n, number)
	return words
}

// dayBy is the definition of the phrase of a day; the dates are those of layers 17 and 18, which test them.
func dayBy(n api.NumeralSystem, p api.Phrasing, day int) []string {
	d, _ := map[int]func(int) (api.Date, api.Errno){1: calendar.SolarDate, 2: lunisolar.Date, 3: calendar.CycleDate}[p.Calendar](day)
	out := []string{}
	for _, part := range p.Date {
		switch {
		case part.Kind == api.PartWord, part.Kind == api.PartLeap && d.Leap:
			out = append(out, part.Word)
		case part.Kind == api.PartYear:
			out = append(out, wordsBy(n, d.Year)...)
		case part.Kind == api.PartMonth && len(p.Months) > 0:
			out = append(out, p.Months[d.Month-1])
		case part.Kind == api.PartMonth:
			out = append(out, wordsBy(n, d.Month)...)
		case part.Kind == api.PartDay && p.Calendar == api.Cycle:
			out = append(out, p.Days[d.Day])
		case part.Kind == api.PartDay:
			out = append(out, wordsBy(n, d.Day)...)
		}
	}
	return out
}

// minuteBy is the definition of the phrase of a minute of the day.
func minuteBy(n api.NumeralSystem, p api.Phrasing, minute int) []string {
	hour, period := minute/60, 0
	switch p.Clock {
	case api.Hours12:
		hour, period = (hour+11)%12+1, hour/12
	case api.Watches:
		hour, period = hour%4, hour/4
	}
	out := []string{}
	for _, part := range p.Time {
		switch part.Kind {
		case api.PartWord:
			out = append(out, part.Word)
		case api.PartHour:
			out = append(out, wordsBy(n, hour)...)
		case api.PartMinute:
			out = append(out, wordsBy(n, minute%60)...)
		case api.PartPeriod:
			out = append(out, p.Periods[period])
		}
	}
	return out
}

// amountBy is the definition of the phrase of an amount.
func amountBy(n api.NumeralSystem, units []api.Unit, value int) []string {
	if value == 0 {
		return append(wordsBy(n, 0), units[0].Name)
	}
	out := []string{}
	for i := len(units) - 1; i >= 0; i-- {
		part := value / units[i].Size
		value -= part * units[i].Size
		if part > 0 {
			out = append(append(out, wordsBy(n, part)...), units[i].Name)
		}
	}
	return out
}

// entry is a number with the checksum of its phrase.
type entry struct {
	sum    uint64
	number int
}

// index lists the phrases of all numbers below some number, ordered by checksums and then by numbers.
type index []entry

// newIndex returns the index of the numbers below count.
func newIndex(count int, phrase func(number int) []string) index {
	out := make(index, 0, count)
	for number := range count {
		out = append(out, entry{checksum(phrase(number)), number})
	}
	slices.SortFunc(out, func(a, b entry) int { return cmp.Or(cmp.Compare(a.sum, b.sum), cmp.Compare(a.number, b.number)) })
	return out
}

// checksum returns a number that tells lists of tokens apart.
func checksum(list []string) uint64 {
	sum := fnv.New64a()
	for _, token := range list {
		io.WriteString(sum, token+" ")
	}
	return sum.Sum64()
}

// find returns the numbers with a phrase, in ascending order.
func (x index) find(phrase []string) []int {
	var out []int
	sum := checksum(phrase)
	at, _ := slices.BinarySearchFunc(x, sum, func(e entry, sum uint64) int { return cmp.Compare(e.sum, sum) })
	for ; at < len(x) && x[at].sum == sum; at++ {
		out = append(out, x[at].number)
	}
	return out
}

// groups returns one number of each group of numbers with the same phrase, by the size of the group; the least one of several groups.
func (x index) groups() map[int]int {
	out := map[int]int{}
	for at := 0; at < len(x); {
		size := 1
		for at+size < len(x) && x[at+size].sum == x[at].sum {
			size++
		}
		if least, found := out[size]; !found || x[at].number < least {
			out[size] = x[at].number
		}
		at += size
	}
	return out
}

// checkFound compares the result of a function that reads phrases with the numbers that have the phrase.
func checkFound(t *testing.T, phrase []string, want, got []int, e api.Errno) {
	t.Helper()
	wantError := api.OK
	if len(want) > api.MaxOutputs {
		want, wantError = nil, api.ErrTooLarge
	}
	if e != wantError || !slices.Equal(got, want) {
		t.Errorf("%q: %v, %d, not %v, %d", phrase, got, e, want, wantError)
	}
}

// changes returns the phrase with a token left out, repeated, added or replaced, and tokens exchanged.
func changes(phrase []string, source *rand.Rand) [][]string {
	out := [][]string{nil, {}, {""}, append(slices.Clone(phrase), "x"), append(slices.Clone(phrase), phrase...), append([]string{"x"}, phrase...)}
	for i := range phrase {
		j := source.Intn(len(phrase))
		swapped := slices.Clone(phrase)
		swapped[i], swapped[j] = swapped[j], swapped[i]
		replaced := slices.Clone(phrase)
		replaced[i] = phrase[j]
		out = append(out, swapped, replaced, slices.Delete(slices.Clone(phrase), i, i+1), slices.Insert(slices.Clone(phrase), i, phrase[i]), slices.Insert(slices.Clone(phrase), i, phrase[j]))
	}
	return out
}

// randomToken returns one of the first few letters.
func randomToken(source *rand.Rand, kinds int) string { return string(rune('a' + source.Intn(kinds))) }

// randomTokens returns so many of the first few letters.
func randomTokens(source *rand.Rand, kinds, count int) []string {
	out := []string{}
	for range count {
		out = append(out, randomToken(source, kinds))
	}
	return out
}

// randomNumerals returns a numeral system with few different tokens.
func randomNumerals(source *rand.Rand, kinds int) api.NumeralSystem {
	base := 10 + 10*source.Intn(2)
	n := api.NumeralSystem{Base: base, SmallFirst: source.Intn(2) > 0, OmitOne: source.Intn(2) > 0, Digits: randomTokens(source, kinds, base), Powers: randomTokens(source, kinds, 3)}
	if source.Intn(2) > 0 {
		n.Joiner = randomToken(source, kinds)
	}
	if source.Intn(2) > 0 {
		n.Less, n.Subtract = randomToken(source, kinds), source.Intn(base/2)
	}
	return n
}

// randomPhrasing returns a phrasing with few different tokens and parts in any order, some of them repeated.
func randomPhrasing(source *rand.Rand, kinds int) api.Phrasing {
	p := api.Phrasing{Calendar: 1 + source.Intn(3), Clock: 1 + source.Intn(3), DayFirst: source.Intn(2) > 0}
	date, time := []int{2, 3, 4}, []int{6, 7}
	if p.Calendar == api.Lunisolar || source.Intn(4) == 0 {
		date = append(date, 5)
	}
	if p.Calendar == api.Cycle {
		p.Days = randomTokens(source, kinds, 20)
	} else if source.Intn(2) > 0 {
		p.Months = randomTokens(source, kinds, 12)
	}
	if p.Clock != api.Hours24 || source.Intn(3) == 0 {
		p.Periods = randomTokens(source, kinds, []int{0, 1, 2, 6}[p.Clock])
		time = append(time, 8)
	}
	p.Date, p.Time = randomParts(source, kinds, date, 5), randomParts(source, kinds, time, 8)
	return p
}

// randomParts returns parts of each of the needed kinds, and some more of these or of words, in any order.
func randomParts(source *rand.Rand, kinds int, needed []int, last int) []api.PhrasePart {
	list := slices.Clone(needed)
	for range source.Intn(4) {
		list = append(list, api.PartWord)
	}
	for range source.Intn(3) {
		list = append(list, needed[source.Intn(len(needed))])
	}
	source.Shuffle(len(list), func(i, j int) { list[i], list[j] = list[j], list[i] })
	var out []api.PhrasePart
	for _, kind := range list {
		part := api.PhrasePart{Kind: kind}
		if kind == api.PartWord || kind == api.PartLeap {
			part.Word = randomToken(source, kinds)
		}
		out = append(out, part)
	}
	return out
}
