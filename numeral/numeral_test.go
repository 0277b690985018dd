package numeral

import (
	"fmt"
	"maps"
	"math"
	"math/rand"
	"reflect"
	"slices"
	"strings"
	"testing"

	"pentaglot/api"
)

// wrongTokens are no tokens.
func wrongTokens() []string {
	return []string{"", " ", "a b", "a ", " a", "\x00", "a\x1f", "\n", "\ta", "\xff", "a\xc3", "\xed\xa0\x80"}
}

// rightTokens are tokens, although no language has some of them.
func rightTokens() []string {
	return []string{"!", "a", "\x7f", "=", "-", "א", "𐐀", "\u0085", "\u00a0", "\uFFFD", "\u3000", strings.Repeat("x", 5000)}
}

// invalidSystems returns systems that are not valid, by what is wrong with them.
func invalidSystems() map[string]api.NumeralSystem {
	out := map[string]api.NumeralSystem{"the zero value": {}}
	for _, s := range []api.NumeralSystem{example(), twenty()} {
		add := func(name string, change func(s *api.NumeralSystem)) {
			out[fmt.Sprintf("base %d: %s", s.Base, name)] = changed(s, change)
		}
		add("no digits", func(s *api.NumeralSystem) { s.Digits = nil })
		add("a digit too few", func(s *api.NumeralSystem) { s.Digits = s.Digits[1:] })
		add("a digit too many", func(s *api.NumeralSystem) { s.Digits = append(slices.Clone(s.Digits), "more") })
		add("no powers", func(s *api.NumeralSystem) { s.Powers = nil })
		add("a power too few", func(s *api.NumeralSystem) { s.Powers = s.Powers[:2] })
		add("a power too many", func(s *api.NumeralSystem) { s.Powers = append(slices.Clone(s.Powers), "more") })
		add("the other base", func(s *api.NumeralSystem) { s.Base = 30 - s.Base })
		add("Subtract -1", func(s *api.NumeralSystem) { s.Subtract, s.Less = -1, "from" })
		add("the least Subtract", func(s *api.NumeralSystem) { s.Subtract, s.Less = math.MinInt, "from" })
		add("Subtract half of the base", func(s *api.NumeralSystem) { s.Subtract, s.Less = s.Base/2, "from" })
		add("the greatest Subtract", func(s *api.NumeralSystem) { s.Subtract, s.Less = math.MaxInt, "from" })
		add("Subtract 1 without Less", func(s *api.NumeralSystem) { s.Subtract = 1 })
		add("the greatest possible Subtract without Less", func(s *api.NumeralSystem) { s.Subtract = s.Base/2 - 1 })
		for _, w := range wrongTokens() {
			for _, k := range []int{0, 1, s.Base - 1} {
				add(fmt.Sprintf("digit %d is %q", k, w), func(s *api.NumeralSystem) { s.Digits = slices.Clone(s.Digits); s.Digits[k] = w })
			}
			for k := range 3 {
				add(fmt.Sprintf("power %d is %q", k, w), func(s *api.NumeralSystem) { s.Powers = slices.Clone(s.Powers); s.Powers[k] = w })
			}
			if w != "" {
				add(fmt.Sprintf("Joiner is %q", w), func(s *api.NumeralSystem) { s.Joiner = w })
				add(fmt.Sprintf("Less is %q", w), func(s *api.NumeralSystem) { s.Less = w })
				add(fmt.Sprintf("Less is %q, with Subtract", w), func(s *api.NumeralSystem) { s.Less, s.Subtract = w, 1 })
			}
		}
	}
	for _, base := range []int{math.MinInt, -20, -10, -1, 0, 1, 2, 3, 9, 11, 12, 15, 19, 21, 30, 40, 60, 100, 1000, math.MaxInt} {
		out[fmt.Sprintf("base %d", base)] = changed(example(), func(s *api.NumeralSystem) {
			s.Base = base
			s.Digits = slices.Repeat([]string{"a"}, min(max(base, 0), 1000))
		})
	}
	return out
}

func TestValid(t *testing.T) { // P15.1
	for name, s := range invalidSystems() {
		if Valid(s) {
			t.Errorf("%s: valid", name)
		}
	}
	for _, s := range append(combinations(), example(), twenty()) {
		if !Valid(s) {
			t.Errorf("not valid: %v", s)
		}
		for _, w := range rightTokens() {
			all := api.NumeralSystem{Base: s.Base, Digits: slices.Repeat([]string{w}, s.Base), Powers: []string{w, w, w}, Joiner: w, Less: w, Subtract: s.Subtract}
			if !Valid(all) || !Valid(changed(s, func(s *api.NumeralSystem) { s.Joiner, s.Less = w, w })) {
				t.Errorf("not valid with %q", w)
			}
		}
	}
	// Less may be a token without Subtract, and it may be empty then.
	if !Valid(changed(example(), func(s *api.NumeralSystem) { s.Less = "from" })) || !Valid(changed(example(), func(s *api.NumeralSystem) { s.Joiner = "" })) {
		t.Error("not valid with a word more or less")
	}
}

func TestInvalid(t *testing.T) { // P15.1
	lists := [][]string{nil, {}, {"zero"}, {"one"}, {"a"}, {""}, strings.Fields("two ten and three")}
	numbers := []int{math.MinInt, -1, 0, 1, 23, 9999, 10000, math.MaxInt}
	for name, s := range invalidSystems() {
		if n := Greatest(s); n != -1 {
			t.Errorf("%s: Greatest %d", name, n)
		}
		if v := Vocabulary(s); v != nil {
			t.Errorf("%s: Vocabulary %q", name, v)
		}
		for _, l := range lists {
			if found := Parse(s, l); found != nil {
				t.Errorf("%s: Parse(%q) = %v", name, l, found)
			}
		}
		for _, n := range numbers {
			if w, e := Words(s, n); w != nil || e != api.ErrArgument {
				t.Errorf("%s: Words(%d) = %q, %d", name, n, w, e)
			}
			if a, b, found := Clash(s, n); a != 0 || b != 0 || found {
				t.Errorf("%s: Clash(%d) = %d, %d, %v", name, n, a, b, found)
			}
			if k, count := Longest(s, n); k != 0 || count != 0 {
				t.Errorf("%s: Longest(%d) = %d, %d", name, n, k, count)
			}
		}
	}
}

func TestGreatest(t *testing.T) { // P15.2
	for _, s := range combinations() {
		if n := Greatest(s); n != 9999 {
			t.Errorf("Greatest(%v) = %d", s, n)
		}
	}
}

func TestWords(t *testing.T) { // P15.2
	omit := changed(example(), func(s *api.NumeralSystem) { s.OmitOne = true })
	small := changed(example(), func(s *api.NumeralSystem) { s.SmallFirst = true })
	less := changed(example(), func(s *api.NumeralSystem) { s.Subtract, s.Less = 2, "from" })
	most := changed(less, func(s *api.NumeralSystem) { s.Subtract, s.SmallFirst, s.OmitOne, s.Joiner = 4, true, true, "" })
	off := changed(twenty(), func(s *api.NumeralSystem) { s.Subtract, s.Less, s.OmitOne = 9, "off", true })
	for _, c := range []struct {
		name string
		s    api.NumeralSystem
		want map[int]string
	}{
		{"the example", example(), map[int]string{0: "zero", 9: "nine", 10: "one ten", 11: "one ten and one", 19: "one ten and nine", 20: "two ten", 23: "two ten and three", 99: "nine ten and nine", 100: "one hundred", 101: "one hundred and one", 110: "one hundred and one ten", 999: "nine hundred and nine ten and nine", 1000: "one thousand", 1001: "one thousand and one", 1203: "one thousand and two hundred and three", 9000: "nine thousand", 9999: "nine thousand and nine hundred and nine ten and nine"}},
		{"OmitOne", omit, map[int]string{1: "one", 10: "ten", 11: "ten and one", 20: "two ten", 100: "hundred", 110: "hundred and ten", 111: "hundred and ten and one", 1000: "thousand", 1001: "thousand and one", 2111: "two thousand and hundred and ten and one"}},
		{"SmallFirst", small, map[int]string{10: "one ten", 23: "three and two ten", 1203: "three and two hundred and one thousand", 1234: "four and three ten and two hundred and one thousand"}},
		{"Subtract", less, map[int]string{7: "seven", 8: "eight", 9: "nine", 17: "one ten and seven", 18: "two from two ten", 19: "one from two ten", 28: "two from three ten", 88: "two from nine ten", 89: "one from nine ten", 97: "nine ten and seven", 98: "nine ten and eight", 99: "nine ten and nine", 197: "one hundred and nine ten and seven", 198: "two from two hundred", 199: "one from two hundred", 118: "one hundred and two from two ten", 897: "eight hundred and nine ten and seven", 898: "two from nine hundred", 998: "nine hundred and nine ten and eight", 1998: "two from two thousand", 1997: "one thousand and nine hundred and nine ten and seven", 8999: "one from nine thousand", 9998: "nine thousand and nine hundred and nine ten and eight"}},
		{"the greatest Subtract, SmallFirst and OmitOne", most, map[int]string{6: "six", 15: "five ten", 16: "four from two ten", 195: "five nine ten hundred", 196: "four from two hundred", 1116: "four from two ten hundred thousand", 9999: "nine nine ten nine hundred nine thousand"}},
		{"Base 20", twenty(), map[int]string{0: "a", 10: "k", 19: "t", 20: "b score", 21: "b score b", 399: "t score t", 400: "b great", 7999: "t great t score t", 8000: "b vast", 8001: "b vast b", 9999: "b vast e great t score t"}},
		{"Base 20 with Subtract and OmitOne", off, map[int]string{19: "t", 20: "score", 30: "score k", 31: "j off c score", 39: "b off c score", 379: "b off t score", 390: "t score k", 391: "t score l", 399: "t score t", 400: "great", 790: "great t score k", 791: "j off c great", 799: "b off c great", 7599: "b off t great", 7991: "t great t score l", 8000: "vast", 8031: "vast j off c score", 9999: "vast b off f great"}},
	} {
		for n, want := range c.want {
			if got := text(c.s, n); got != want {
				t.Errorf("%s: %d is %q, want %q", c.name, n, got, want)
			}
		}
	}
}

func TestWordsErrors(t *testing.T) { // P15.2: section Errors
	for _, s := range combinations() {
		for n, want := range map[int]api.Errno{math.MinInt: api.ErrArgument, -10000: api.ErrArgument, -1: api.ErrArgument, 0: api.OK, 9999: api.OK, 10000: api.ErrTooLarge, 10001: api.ErrTooLarge, 160000: api.ErrTooLarge, math.MaxInt: api.ErrTooLarge} {
			if w, e := Words(s, n); e != want || e != api.OK && w != nil {
				t.Errorf("Words(%v, %d) = %q, %d", s, n, w, e)
			}
		}
	}
}

func TestDefinition(t *testing.T) { // P15.2, P15.3
	for _, s := range combinations() {
		numbers := numbersBy(s)
		for n := range 10000 {
			want := textBy(s, n)
			if got := text(s, n); got != want {
				t.Fatalf("%v: %d is %q, want %q", s, n, got, want)
			}
			if got := Parse(s, strings.Fields(want)); !slices.Equal(got, numbers[want]) {
				t.Fatalf("%v: %q is %v, want %v", s, want, got, numbers[want])
			}
		}
	}
}

func TestVocabulary(t *testing.T) { // P15.4
	words := func(s string) func(*api.NumeralSystem) {
		return func(n *api.NumeralSystem) { n.Digits = strings.Fields(s) }
	}
	for _, c := range []struct {
		name string
		s    api.NumeralSystem
		want string
	}{
		{"Joiner only", example(), "and eight five four hundred nine one seven six ten thousand three two zero"},
		{"neither Joiner nor Less", twenty(), "a b c d e f g great h i j k l m n o p q r s score t vast"},
		{"Less without Subtract", changed(twenty(), func(s *api.NumeralSystem) { s.Less = "off" }), "a b c d e f g great h i j k l m n o off p q r s score t vast"},
		{"both", changed(example(), func(s *api.NumeralSystem) { s.Subtract, s.Less = 1, "from" }), "and eight five four from hundred nine one seven six ten thousand three two zero"},
		{"in byte order", changed(example(), words("b B ä z א 𐐀 ! ~ \uFFFD bb")), "! B and b bb hundred ten thousand z ~ ä א \uFFFD 𐐀"},
		{"each once", changed(example(), words("one one ten and one hundred from one ten and")), "and from hundred one ten thousand"},
		{"one word only", api.NumeralSystem{Base: 10, Digits: slices.Repeat([]string{"x"}, 10), Powers: []string{"x", "x", "x"}, Joiner: "x", Less: "x"}, "x"},
	} {
		if got := strings.Join(Vocabulary(c.s), " "); got != c.want {
			t.Errorf("%s: %q", c.name, got)
		}
	}
}

func TestBuiltin(t *testing.T) { // P15.3 and P15.5, for P4 of DOC.md
	for _, l := range []api.Language{api.Anta(), api.Bero(), api.Cuni(), api.Delu(), api.Emai()} {
		if a, b, found := Clash(l.Numerals, 9999); !Valid(l.Numerals) || found {
			t.Errorf("%s: %d and %d", l.Name, a, b)
		}
		for n := range 10000 {
			words, e := Words(l.Numerals, n)
			if got := Parse(l.Numerals, words); e != api.OK || !slices.Equal(got, []int{n}) {
				t.Fatalf("%s: %d is %q, which is %v", l.Name, n, words, got)
			}
		}
	}
}

func TestMemory(t *testing.T) { // arguments are not modified, and results share no memory
	for _, s := range combinations() {
		before := changed(s, func(s *api.NumeralSystem) {
			s.Digits, s.Powers = slices.Clone(s.Digits), slices.Clone(s.Powers)
		})
		for _, n := range []int{0, 5, 10, 20, 100, 99, 123, 400, 1000, 8000, 9998} {
			words, _ := Words(s, n)
			again, _ := Words(s, n)
			_ = append(words, "z")
			numbers, rest := Parse(s, words), Parse(s, words)
			if got := Parse(s, words); !slices.Equal(words, again) || !slices.Equal(got, rest) {
				t.Errorf("Parse changed %q to %q", again, words)
			}
			clear(words)
			clear(numbers)
			if got := strings.Join(again, " "); got != textBy(before, n) || len(rest) == 0 || !slices.Contains(rest, n) {
				t.Errorf("%d became %q, %v", n, got, rest)
			}
		}
		v, w := Vocabulary(s), Vocabulary(s)
		_ = append(v, "z")
		clear(v)
		if slices.Contains(w, "") {
			t.Errorf("Vocabulary became %q", w)
		}
		Clash(s, 500)
		Longest(s, 500)
		if !reflect.DeepEqual(s, before) {
			t.Errorf("%v became %v", before, s)
		}
	}
}

func TestRandomSystems(t *testing.T) { // P15.2, P15.3, P15.5
	source := rand.New(rand.NewSource(1))
	shared := 0
	for range 40 {
		s := randomSystem(source)
		numbers := numbersBy(s)
		for n := range 10000 {
			if got := text(s, n); got != textBy(s, n) {
				t.Fatalf("%v: %d is %q", s, n, got)
			}
		}
		// About 150 of the lists of words.
		for _, words := range slices.Sorted(maps.Keys(numbers)) {
			if source.Intn(len(numbers)) > 150 {
				continue
			}
			want := numbers[words]
			if got := Parse(s, strings.Fields(words)); !slices.Equal(got, want) {
				t.Fatalf("%v: %q is %v, want %v", s, words, got, want)
			}
			if len(want) > 1 {
				shared++
			}
		}
		for range 300 {
			words := randomWords(source, s)
			if got, want := Parse(s, words), numbers[strings.Join(words, " ")]; !slices.Equal(got, want) {
				t.Fatalf("%v: %q is %v, want %v", s, words, got, want)
			}
		}
		checkClash(t, s, numbers, 0, 1, 10, source.Intn(30), source.Intn(1000), source.Intn(10000), 9998, 9999, 10000)
	}
	if shared < 500 {
		t.Errorf("only %d lists of words with several numbers", shared)
	}
}

// randomWords returns up to 11 tokens of s.
func randomWords(source *rand.Rand, s api.NumeralSystem) []string {
	vocabulary := Vocabulary(s)
	var out []string
	for range source.Intn(12) {
		out = append(out, vocabulary[source.Intn(len(vocabulary))])
	}
	return out
}
