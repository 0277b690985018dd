package numeral

import (
	"fmt"
	"math"
	"math/rand"
	"slices"
	"strings"
	"testing"

	"pentaglot/api"
)

func TestParse(t *testing.T) { // P15.3
	omit := changed(example(), func(s *api.NumeralSystem) { s.OmitOne = true })
	small := changed(example(), func(s *api.NumeralSystem) { s.SmallFirst = true })
	bare := changed(example(), func(s *api.NumeralSystem) { s.Joiner = "" })
	less := changed(example(), func(s *api.NumeralSystem) { s.Subtract, s.Less = 2, "from" })
	unused := changed(example(), func(s *api.NumeralSystem) { s.Less = "from" })
	off := changed(twenty(), func(s *api.NumeralSystem) { s.Subtract, s.Less = 9, "off" })
	for _, c := range []struct {
		name string
		s    api.NumeralSystem
		want map[string]int // -1: none
	}{
		{"the example", example(), map[string]int{"two ten and three": 23, "two and": -1, "": -1, "zero": 0, "one": 1, "ten": -1, "one ten": 10, "two three": -1, "and": -1, "and two": -1, "two ten and": -1, "two ten and zero": -1, "two ten three": -1, "two ten and one ten": -1, "two ten and two": 22, "one hundred and one hundred": -1, "one hundred and one ten": 110, "one ten and one hundred": -1, "one hundred and one thousand": -1, "zero ten": -1, "zero ten and one": -1, "zero hundred and one ten": -1, "one ten and and one": -1, "one ten hundred": -1, "one hundred ten": -1, "two ten hundred": -1, "One": -1, "ten one": -1, "one thousand and two hundred and three": 1203, "one thousand and three and two hundred": -1, "nine thousand and nine hundred and nine ten and nine": 9999, "nine thousand and nine hundred and nine ten and nine and": -1, "nine thousand and nine hundred and nine ten and nine and one": -1}},
		{"OmitOne", omit, map[string]int{"ten": 10, "one ten": -1, "one": 1, "one hundred": -1, "hundred": 100, "ten and one": 11, "hundred and ten": 110, "hundred and one ten": -1, "two hundred and ten and one": 211}},
		{"SmallFirst", small, map[string]int{"three and two ten": 23, "two ten and three": -1, "three and two hundred and one thousand": 1203, "one thousand and two hundred and three": -1, "three two ten": -1, "and two ten": -1, "zero and two ten": -1}},
		{"no Joiner", bare, map[string]int{"two ten three": 23, "two ten and three": -1, "two": 2, "two ten": 20, "two ten zero": -1, "one thousand two hundred three": 1203, "one thousand two hundred three four": -1, "one ten hundred": -1}},
		{"Subtract", less, map[string]int{"two from three ten": 28, "one from three ten": 29, "three from three ten": -1, "zero from three ten": -1, "two from one ten": -1, "two from ten": -1, "two from ten ten": -1, "one from one hundred": -1, "two from one thousand": -1, "two ten and eight": -1, "two ten and seven": 27, "nine ten and eight": 98, "two from two hundred": 198, "one hundred and nine ten and eight": -1, "two from two thousand": 1998, "two from two": -1, "two from": -1, "from two ten": -1, "two from two ten and one": -1, "two from and two ten": -1, "one hundred and two from two ten": 118, "two from two from two ten": -1, "two from nine thousand": 8998, "one from two hundred and one": -1}},
		{"Less without Subtract", unused, map[string]int{"two from three ten": -1, "two ten and eight": 28}},
		{"Base 20", twenty(), map[string]int{"t": 19, "u": -1, "b score": 20, "c score b": 41, "t great t score t": 7999, "b vast": 8000, "c vast": -1, "b vast f great": -1, "b vast e great t score t": 9999, "b vast e great t score t b": -1, "b vast f great b": -1}},
		{"Base 20 with Subtract", off, map[string]int{"j off c score": 31, "k off c score": -1, "b off c vast": -1, "b off t great": 7599, "b vast b off f great": 9999, "b vast j off f great": 9991, "b vast b off g great": -1}},
	} {
		for words, n := range c.want {
			want := []int{n}
			if n < 0 {
				want = nil
			}
			if got := Parse(c.s, strings.Fields(words)); !slices.Equal(got, want) {
				t.Errorf("%s: %q is %v, want %v", c.name, words, got, want)
			}
		}
	}
}

func TestParseTokens(t *testing.T) { // P15.3: tokens that are no tokens, and too many
	for _, s := range combinations() {
		for _, w := range []string{"", " ", "\xff", "\x00", "unknown", "one ", "a\n", strings.Repeat("a", 5000)} {
			for _, l := range [][]string{{w}, {w, w}, {s.Digits[2], w}, {w, s.Powers[0]}, {s.Digits[2], s.Powers[0], w}, {w, s.Less, s.Digits[3], s.Powers[0]}, {s.Digits[2], s.Powers[0], w, s.Digits[1]}, slices.Repeat([]string{w}, 20)} {
				if got := Parse(s, l); len(got) > 0 {
					t.Errorf("%q is %v", l, got)
				}
			}
		}
		// The words of each number, once too often or with a word more.
		for _, n := range []int{0, 1, 19, 20, 28, 123, 399, 400, 4321, 9999} {
			words, _ := Words(s, n)
			for _, l := range [][]string{append(slices.Clone(words), ""), append([]string{""}, words...), append(append([]string{}, words...), words...), slices.Repeat(words, 100), slices.Insert(slices.Clone(words), len(words)/2, "unknown")} {
				if got := Parse(s, l); len(got) > 0 {
					t.Errorf("%q is %v", l, got)
				}
			}
		}
		if Parse(s, nil) != nil || Parse(s, []string{}) != nil {
			t.Error("no tokens have a number")
		}
	}
}

func TestSameWords(t *testing.T) { // P15.3, P15.5: different numbers with the same words
	double := changed(example(), func(s *api.NumeralSystem) {
		s.Digits = strings.Fields("zero one one three four five six seven eight nine")
	})
	if got := Parse(double, []string{"one"}); !slices.Equal(got, []int{1, 2}) {
		t.Errorf("%v", got)
	}
	if got := Parse(double, strings.Fields("one ten and one")); !slices.Equal(got, []int{11, 12, 21, 22}) {
		t.Errorf("%v", got)
	}
	if a, b, found := Clash(double, 50); a != 1 || b != 2 || !found {
		t.Errorf("%d, %d, %v", a, b, found)
	}
	// The digit 1 has the word of a power, so that a head of one token looks like a digit.
	omit := changed(example(), func(s *api.NumeralSystem) {
		s.OmitOne, s.Joiner, s.Digits = true, "", strings.Fields("zero ten two three four five six seven eight nine")
	})
	for words, want := range map[string][]int{"ten": {1, 10}, "ten ten": {11}, "hundred ten": {101, 110}, "two ten ten": {21}} {
		if got := Parse(omit, strings.Fields(words)); !slices.Equal(got, want) {
			t.Errorf("%q is %v", words, got)
		}
	}
	if a, b, found := Clash(omit, 9999); a != 1 || b != 10 || !found {
		t.Errorf("%d, %d, %v", a, b, found)
	}
	// One word for all.
	for _, s := range combinations() {
		s.Digits, s.Powers, s.Less = slices.Repeat([]string{"x"}, s.Base), []string{"x", "x", "x"}, "x"
		if s.Joiner != "" {
			s.Joiner = "x"
		}
		numbers := numbersBy(s)
		for k := range 12 {
			words := slices.Repeat([]string{"x"}, k)
			if got := Parse(s, words); !slices.Equal(got, numbers[strings.Join(words, " ")]) {
				t.Errorf("%v: %d words are %d numbers", s, k, len(got))
			}
		}
		if got := Parse(s, slices.Repeat([]string{"x"}, 100000)); len(got) > 0 {
			t.Errorf("%v: 100000 words are %v", s, got)
		}
	}
}

func TestClash(t *testing.T) { // P15.5
	digits := func(words string) api.NumeralSystem {
		return changed(example(), func(s *api.NumeralSystem) { s.Digits = strings.Fields(words) })
	}
	powers := func(words string) api.NumeralSystem {
		return changed(example(), func(s *api.NumeralSystem) { s.Powers = strings.Fields(words) })
	}
	twice := changed(powers("ten ten thousand"), func(s *api.NumeralSystem) { s.OmitOne = true })
	for _, c := range []struct {
		name  string
		s     api.NumeralSystem
		limit int
		a, b  int
		found bool
	}{
		{"no clash", example(), 9999, 0, 0, false},
		{"the digit 2 is also called one", digits("zero one one three four five six seven eight nine"), 50, 1, 2, true},
		{"the limit is the second number", digits("zero one one three four five six seven eight nine"), 2, 1, 2, true},
		{"the limit is below the second number", digits("zero one one three four five six seven eight nine"), 1, 0, 0, false},
		{"0 and 1", digits("one one two three four five six seven eight nine"), 1, 0, 1, true},
		{"0 and 1, up to 0", digits("one one two three four five six seven eight nine"), 0, 0, 0, false},
		{"of three numbers the first two", digits("zero same two same four same six seven eight nine"), 9, 1, 3, true},
		{"the smallest second number, not the smallest first one", digits("zero x two y y five six seven eight x"), 9999, 3, 4, true},
		{"the smallest second number, not the nearest ones", digits("zero x two three x five six seven y y"), 9999, 1, 4, true},
		{"powers with one word", powers("ten thousand thousand"), 9999, 100, 1000, true},
		{"powers with one word, below the second one", powers("ten thousand thousand"), 999, 0, 0, false},
		{"powers with one word, at the second one", powers("ten thousand thousand"), 1000, 100, 1000, true},
		{"ten is also a hundred", twice, 9999, 10, 100, true},
		{"tokens that are equal one after the other are no clash", digits("a aa aaa aaaa b bb ab ba c cc"), 9999, 0, 0, false},
		{"a limit above 9999", powers("ten thousand thousand"), math.MaxInt, 100, 1000, true},
		{"a limit of 10000", example(), 10000, 0, 0, false},
		{"a limit below 0", digits("x x x x x x x x x x"), -1, 0, 0, false},
		{"the least limit", digits("x x x x x x x x x x"), math.MinInt, 0, 0, false},
		{"the last number", changed(twenty(), func(s *api.NumeralSystem) { s.Powers[2] = s.Powers[1] }), 9999, 400, 8000, true},
	} {
		if a, b, found := Clash(c.s, c.limit); a != c.a || b != c.b || found != c.found {
			t.Errorf("%s: %d, %d, %v", c.name, a, b, found)
		}
	}
}

// checkClash compares Clash and Longest with the numbers of all words.
func checkClash(t *testing.T, s api.NumeralSystem, numbers map[string][]int, limits ...int) {
	for _, limit := range limits {
		first, second, longest, most := 0, math.MaxInt, 0, 0
		for words, list := range numbers {
			if len(list) > 1 && list[1] <= limit && list[1] < second {
				first, second = list[0], list[1]
			}
			count := strings.Count(words, " ") + 1
			if list[0] <= limit && (count > most || count == most && list[0] < longest) {
				longest, most = list[0], count
			}
		}
		want := fmt.Sprint(first, second, true, longest, most)
		if second == math.MaxInt {
			want = fmt.Sprint(0, 0, false, longest, most)
		}
		a, b, found := Clash(s, limit)
		n, count := Longest(s, limit)
		if got := fmt.Sprint(a, b, found, n, count); got != want {
			t.Fatalf("%v: Clash and Longest up to %d are %s, want %s", s, limit, got, want)
		}
	}
}

func TestClashOfCombinations(t *testing.T) { // P15.5
	source := rand.New(rand.NewSource(2))
	for _, s := range combinations() {
		checkClash(t, s, numbersBy(s), -1, 0, 30, source.Intn(10000), 9999)
	}
}

func TestLongest(t *testing.T) { // P15.5
	omit := changed(example(), func(s *api.NumeralSystem) { s.OmitOne = true })
	less := changed(example(), func(s *api.NumeralSystem) { s.Subtract, s.Less, s.Joiner = 2, "from", "" })
	for _, c := range []struct {
		name             string
		s                api.NumeralSystem
		limit, n, length int
	}{
		{"the example", example(), 50, 11, 4},
		{"below 0", example(), -1, 0, 0},
		{"the least limit", example(), math.MinInt, 0, 0},
		{"0", example(), 0, 0, 1},
		{"9", example(), 9, 0, 1},
		{"10", example(), 10, 10, 2},
		{"11", example(), 11, 11, 4},
		{"109", example(), 109, 11, 4},
		{"110", example(), 110, 110, 5},
		{"111", example(), 111, 111, 7},
		{"9999", example(), 9999, 1111, 10},
		{"10000", example(), 10000, 1111, 10},
		{"the greatest limit", example(), math.MaxInt, 1111, 10},
		{"OmitOne", omit, 9999, 2221, 10},
		{"Subtract", less, 50, 18, 4},
		{"Subtract, up to 9999", less, 9999, 1118, 8},
		{"Base 20", twenty(), 9999, 8421, 7},
	} {
		if n, length := Longest(c.s, c.limit); n != c.n || length != c.length {
			t.Errorf("%s: %d, %d", c.name, n, length)
		}
	}
}

func TestLongTokens(t *testing.T) { // P1 of DOC.md: tokens of any length
	long := changed(example(), func(s *api.NumeralSystem) {
		s.Digits = slices.Clone(s.Digits)
		for i := range s.Digits {
			s.Digits[i] = strings.Repeat("x", 1<<20) + s.Digits[i]
		}
	})
	if a, b, found := Clash(long, 9999); found {
		t.Errorf("%d and %d", a, b)
	}
	if n, length := Longest(long, 9999); n != 1111 || length != 10 {
		t.Errorf("%d, %d", n, length)
	}
	words, e := Words(long, 9999)
	if got := Parse(long, words); e != api.OK || !slices.Equal(got, []int{9999}) {
		t.Errorf("%v, %d", got, e)
	}
}
