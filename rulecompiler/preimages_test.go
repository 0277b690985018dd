package rulecompiler

import (
	"math/rand"
	"slices"
	"strings"
	"testing"

	"pentaglot/api"
	"pentaglot/rewrite"
)

// turn returns the rule that replaces a letter everywhere.
func turn(from rune, to string) api.Rule { return api.Rule{From: from, To: to} }

// merging returns rules that turn the letters of many from number 1 to number n - 1 into number 0.
func merging(n int) []api.Rule {
	var out []api.Rule
	for i := 1; i < n; i++ {
		out = append(out, turn(rune(0x100+i), "\u0100"))
	}
	return out
}

func TestPreimages(t *testing.T) { // P8.4
	as := func(n int) string { return strings.Repeat("a", n) }
	ts := func(n int) string { return strings.Repeat("t", n) }
	var upTo []string
	for i := range 11 {
		upTo = append(upTo, as(i))
	}
	for _, c := range []struct {
		name    string
		a       []api.Letter
		rules   []api.Rule
		surface string
		n       int
		want    []string
	}{
		{"example 3", letters(), []api.Rule{drop()}, "a", 2, []string{"a", "ta"}},
		{"example 3 without contexts", letters(), []api.Rule{turn('t', "")}, "a", 2, []string{"a", "at", "ta"}},
		{"no rules", letters(), nil, "ta", 2, []string{"ta"}},
		{"no rules, and no letters", letters(), nil, "", 0, []string{""}},
		{"no rules, and a limit that is too low", letters(), nil, "ta", 1, nil},
		{"no rules, and 40 letters", letters(), nil, ts(40), 40, []string{ts(40)}},
		{"n is 0", letters(), []api.Rule{{To: "a"}}, "a", 0, []string{""}},
		{"n is 0, and nothing is found", letters(), []api.Rule{turn('t', "a")}, "a", 0, nil},
		{"only deleted letters", letters(), []api.Rule{turn('t', "")}, "", 3, []string{"", "t", "tt", "ttt"}},
		{"no word has this result", letters(), []api.Rule{turn('t', "a")}, "t", 40, nil},
		{"two letters become one", letters(), []api.Rule{turn('t', "a")}, "aa", 40, []string{"aa", "at", "ta", "tt"}},
		{"by code points, not in the order of the letters", three(), []api.Rule{turn('t', ""), turn('e', "a")}, "a", 2, []string{"a", "e", "at", "et", "ta", "te"}},
		{"longer results", letters(), []api.Rule{turn('t', "aa")}, "aaa", 40, []string{"at", "ta", "aaa"}},
		{"insertions", letters(), []api.Rule{{To: "t"}}, "tatat", 40, []string{"aa"}},
		{"insertions that are not complete", letters(), []api.Rule{{To: "t"}}, "tata", 40, nil},
		{"insertions at the end", letters(), []api.Rule{{To: "at", Final: true}}, "at", 40, []string{""}},
		{"an insertion of nothing", letters(), []api.Rule{{}}, "at", 40, []string{"at"}},
		{"the context is that of the given word", letters(), []api.Rule{{From: 't', To: "a", Left: []api.Item{{Mask: api.Vowel}}}}, "aat", 3, []string{"att"}},
		{"a context far behind", letters(), []api.Rule{{From: 'a', To: "t", Right: []api.Item{{Repeated: true}, {Mask: api.Consonant}}}}, "ttta", 4, []string{"aata", "atta", "tata", "ttta"}},
		{"a rule that never applies", letters(), []api.Rule{{From: 'a', Left: []api.Item{{Negated: true}}}}, "ata", 40, []string{"ata"}},
		{"the rules in their order", letters(), []api.Rule{turn('t', "a"), turn('a', "")}, "", 1, []string{"", "a", "t"}},
		{"the rules in the opposite order", letters(), []api.Rule{turn('a', ""), turn('t', "a")}, "aa", 2, []string{"tt"}},
		{"2^40 words between the rules", three(), []api.Rule{turn('a', "e"), turn('t', "a")}, as(40), 40, []string{ts(40)}},
		{"results that are too large in between are left out", letters(), []api.Rule{turn('a', "aaaa"), turn('a', "")}, "", 40, upTo},
		{"the growth is limited, too", letters(), []api.Rule{turn('a', "aaaa"), turn('a', "")}, "", 9, upTo[:10]},
		{"64 rules", letters(), slices.Repeat([]api.Rule{{From: 't', To: "a", Initial: true}}, 64), "at", 40, []string{"at", "tt"}},
		{"64 rules and a word of 40 letters", letters(), slices.Repeat([]api.Rule{{From: 't', To: "a", Left: []api.Item{{}}}}, 64), as(40), 1, nil},
		{"40 rules that insert", letters(), slices.Repeat([]api.Rule{{To: "t", Initial: true}}, 40), ts(40), 40, []string{""}},
		{"more insertions than letters", letters(), slices.Repeat([]api.Rule{{To: "t", Initial: true}}, 41), ts(40), 40, nil},
		{"65 letters", many(65), []api.Rule{turn(0x140, "\u0100")}, "\u0100\u0101", 2, []string{"\u0100\u0101", "\u0140\u0101"}},
		{"a rule that cannot be compiled", many(65), []api.Rule{widest("\u0101\u0101\u0101\u0101")}, "\u0100\u0100", 40, []string{"\u0100\u0100"}},
		{"256 words of equal length", letters(), []api.Rule{turn('t', "a")}, as(8), 40, strs(letters(), 8)[255:]},
		{"256 words", many(16), merging(16), "\u0100\u0100", 40, strs(many(16), 2)[17:]},
	} {
		if got, e := Preimages(c.a, c.rules, c.surface, c.n); e != api.OK || !slices.Equal(got, c.want) {
			t.Errorf("%s: %q, %d", c.name, got, e)
		}
	}
}

func TestPreimagesLimit(t *testing.T) { // P8.4: 256 and 257 words
	rules := append(merging(16), turn(0x110, "\u0100\u0100"))
	for _, c := range []struct {
		name    string
		a       []api.Letter
		rules   []api.Rule
		surface string
		n       int
		e       api.Errno
		count   int
	}{
		{"256 words", many(17), rules[:15], "\u0100\u0100", 2, api.OK, 256},
		{"257 words", many(17), rules, "\u0100\u0100", 2, api.ErrTooLarge, 0},
		{"257 words, of which one is short enough", many(17), rules, "\u0100\u0100", 1, api.OK, 1},
		{"512 words", letters(), []api.Rule{turn('t', "a")}, "aaaaaaaaa", 9, api.ErrTooLarge, 0},
		{"512 words, none of which is short enough", letters(), []api.Rule{turn('t', "a")}, "aaaaaaaaa", 8, api.OK, 0},
		{"255 words", three(), []api.Rule{turn('a', ""), turn('e', "")}, "", 7, api.OK, 255},
		{"511 words", three(), []api.Rule{turn('a', ""), turn('e', "")}, "", 8, api.ErrTooLarge, 0},
		{"65^40 words", many(65), merging(65), strings.Repeat("\u0100", 40), 40, api.ErrTooLarge, 0},
		{"more than 64^40 words", many(65), deleting(64), "", 40, api.ErrTooLarge, 0},
	} {
		if got, e := Preimages(c.a, c.rules, c.surface, c.n); e != c.e || len(got) != c.count {
			t.Errorf("%s: %d words, %d", c.name, len(got), e)
		}
	}
}

// deleting returns rules that delete the first n letters of many.
func deleting(n int) []api.Rule {
	var out []api.Rule
	for i := range n {
		out = append(out, turn(rune(0x100+i), ""))
	}
	return out
}

func TestPreimagesModel(t *testing.T) { // P8.4, against the definition
	r := rand.New(rand.NewSource(3))
	found := 0
	for range 4000 {
		rules, n := randomRules(r, 4), r.Intn(6)
		words := strs(three(), n)
		surface := words[r.Intn(len(words))]
		if s, e := rewrite.Cascade(three(), rules, surface); e == api.OK && r.Intn(3) > 0 {
			surface = s
		}
		got, e := Preimages(three(), rules, surface, n)
		want, f := preimagesBy(three(), rules, surface, n)
		if e != f || !slices.Equal(got, want) {
			t.Fatalf("Preimages(%+v, %q, %d) = %q, %d, not %q, %d", rules, surface, n, got, e, want, f)
		}
		found += len(got)
	}
	if found < 4000 {
		t.Error("only", found, "words")
	}
}

func TestPreimagesLong(t *testing.T) { // P8.4: long words and many rules, checked by the cascade
	r := rand.New(rand.NewSource(4))
	for range 300 {
		rules, w := randomRules(r, 6), ""
		for range 10 + r.Intn(31) {
			w += string(three()[r.Intn(3)].Rune)
		}
		surface, e := rewrite.Cascade(three(), rules, w)
		if e != api.OK {
			continue
		}
		got, e := Preimages(three(), rules, surface, api.MaxWord)
		if e == api.OK && !slices.Contains(got, w) || e != api.OK && (e != api.ErrTooLarge || len(got) != 0) {
			t.Fatalf("Preimages(%+v, %q) = %q, %d, without %q", rules, surface, got, e, w)
		}
		for _, x := range got {
			if s, e := rewrite.Cascade(three(), rules, x); e != api.OK || s != surface {
				t.Fatalf("Preimages(%+v, %q) contains %q, which becomes %q, %d", rules, surface, x, s, e)
			}
		}
	}
}

func TestPreimagesInvalid(t *testing.T) { // P8.4, P1
	good := api.Rule{}
	check := func(name string, a []api.Letter, rules []api.Rule, surface string, n int) {
		t.Helper()
		if got, e := Preimages(a, rules, surface, n); e != api.ErrArgument || len(got) != 0 {
			t.Errorf("%s: %q, %d", name, got, e)
		}
	}
	for _, r := range wrong() {
		check("a rule that is not valid", letters(), []api.Rule{r}, "a", 2)
		check("a rule that is not valid, first", letters(), []api.Rule{r, good}, "a", 2)
		check("a rule that is not valid, last", letters(), []api.Rule{good, r}, "a", 2)
	}
	for _, a := range inadmissible() {
		check("letters that are not admissible", a, nil, "", 2)
		check("letters that are not admissible", a, []api.Rule{good}, "", 2)
	}
	for _, w := range wrongWords() {
		check("a surface form that is no word", letters(), nil, w, 40)
		check("a surface form that is no word", letters(), []api.Rule{turn('t', "a")}, w, 40)
	}
	for _, n := range []int{-1, 41, -1 << 63, 1<<63 - 1} {
		check("a limit out of range", letters(), nil, "a", n)
		check("a limit out of range, and too many words", letters(), []api.Rule{turn('t', "a")}, "aaaaaaaaa", n)
	}
	check("65 rules", letters(), make([]api.Rule, 65), "a", 2)
	check("65 rules, and too many words", letters(), slices.Repeat([]api.Rule{turn('t', "a")}, 65), "aaaaaaaaa", 9)
}

func TestMerged(t *testing.T) { // P8.5
	for _, c := range []struct {
		name  string
		rules []api.Rule
		words []string
		want  [][]string
		e     api.Errno
	}{
		{"example 4", []api.Rule{drop()}, []string{"ta", "t", "a"}, [][]string{{"ta", "a"}, {"t"}}, api.OK},
		{"the same word twice", []api.Rule{drop()}, []string{"ta", "t", "a", "ta"}, [][]string{{"ta", "a", "ta"}, {"t"}}, api.OK},
		{"the same word only", nil, []string{"t", "t"}, [][]string{{"t", "t"}}, api.OK},
		{"no words", []api.Rule{drop()}, nil, nil, api.OK},
		{"no words and no rules", nil, nil, nil, api.OK},
		{"no rules", nil, []string{"t", "", "a"}, [][]string{{"t"}, {""}, {"a"}}, api.OK},
		{"the order of the first results", []api.Rule{turn('t', "a")}, []string{"tt", "a", "aa", "", "t", "at"}, [][]string{{"tt", "aa", "at"}, {"a", "t"}, {""}}, api.OK},
		{"the whole cascade", []api.Rule{turn('t', "a"), turn('a', "")}, []string{"tat", "", "a"}, [][]string{{"tat", "", "a"}}, api.OK},
		{"a word of 40 letters", []api.Rule{turn('t', "a")}, []string{strings.Repeat("t", 40)}, [][]string{{strings.Repeat("t", 40)}}, api.OK},
		{"64 rules", slices.Repeat([]api.Rule{turn('t', "a")}, 64), []string{"t", "a"}, [][]string{{"t", "a"}}, api.OK},
		{"65 rules", slices.Repeat([]api.Rule{turn('t', "a")}, 65), []string{"t", "a"}, nil, api.ErrArgument},
		{"a result that is too large", []api.Rule{turn('t', "aa")}, []string{"a", strings.Repeat("t", 21), "t"}, nil, api.ErrTooLarge},
		{"a result that is too large in between", []api.Rule{turn('t', "aa"), turn('a', "")}, []string{strings.Repeat("t", 21)}, nil, api.ErrTooLarge},
		{"too large, and then no word", []api.Rule{turn('t', "aa")}, []string{strings.Repeat("t", 21), "x"}, nil, api.ErrArgument},
	} {
		got, e := Merged(letters(), c.rules, c.words...)
		if e != c.e || !slices.EqualFunc(got, c.want, slices.Equal[[]string]) {
			t.Errorf("%s: %q, %d", c.name, got, e)
		}
	}
}

func TestMergedModel(t *testing.T) { // P8.5
	r := rand.New(rand.NewSource(5))
	words := strs(three(), 3)
	for range 500 {
		rules := randomRules(r, 3)
		var list []string
		for range r.Intn(12) {
			list = append(list, words[r.Intn(len(words))])
		}
		var want [][]string
		var results []string
		for _, w := range list {
			s, _ := rewrite.Cascade(three(), rules, w)
			i := slices.Index(results, s)
			if i < 0 {
				i, results, want = len(results), append(results, s), append(want, nil)
			}
			want[i] = append(want[i], w)
		}
		before := slices.Clone(list)
		got, e := Merged(three(), rules, list...)
		if e == api.ErrTooLarge {
			continue
		}
		if e != api.OK || !slices.EqualFunc(got, want, slices.Equal[[]string]) || !slices.Equal(list, before) {
			t.Fatalf("Merged(%+v, %q) = %q, %d, not %q", rules, list, got, e, want)
		}
	}
}

func TestMergedInvalid(t *testing.T) { // P8.5, P1
	good := api.Rule{}
	check := func(name string, a []api.Letter, rules []api.Rule, words ...string) {
		t.Helper()
		if got, e := Merged(a, rules, words...); e != api.ErrArgument || len(got) != 0 {
			t.Errorf("%s: %q, %d", name, got, e)
		}
	}
	for _, r := range wrong() {
		check("a rule that is not valid", letters(), []api.Rule{r}, "a")
		check("a rule that is not valid, and no words", letters(), []api.Rule{good, r})
	}
	for _, a := range inadmissible() {
		check("letters that are not admissible", a, nil, "")
		check("letters that are not admissible, and no words", a, nil)
	}
	for _, w := range wrongWords() {
		check("no word", letters(), nil, w)
		check("no word, first", letters(), []api.Rule{good}, w, "a", "t")
		check("no word, in between", letters(), []api.Rule{good}, "a", w, "t")
		check("no word, last", letters(), []api.Rule{good}, "a", "t", w)
	}
}
