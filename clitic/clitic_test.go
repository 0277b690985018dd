package clitic

import (
	"math"
	"slices"
	"strings"
	"testing"

	"pentaglot/api"
)

// as returns n times the letter a.
func as(n int) string { return strings.Repeat("a", n) }

// ts returns n times the letter t.
func ts(n int) string { return strings.Repeat("t", n) }

func TestExtended(t *testing.T) { // P14.1
	boundary := api.Letter{Rune: '=', Classes: 1 << 31}
	strange := []api.Letter{{Rune: -1}, {Rune: 0, Classes: 7}, {Rune: 'a'}, {Rune: 'a', Classes: 1}}
	with := append(letters(), api.Letter{Rune: '=', Classes: api.Vowel}, api.Letter{Rune: 'o'})
	for _, a := range [][]api.Letter{nil, {}, letters(), with, many(64), many(65), many(1000), strange} {
		got := Extended(a)
		if len(got) != len(a)+1 || !slices.Equal(got[:len(a)], a) || got[len(a)] != boundary {
			t.Errorf("Extended(%v) = %v", a, got)
		}
	}
	// The room behind the letters belongs to the caller.
	room := append(make([]api.Letter, 0, 10), letters()...)
	first, second := Extended(room), Extended(room)
	if room[:5][4] != (api.Letter{}) {
		t.Errorf("the argument became %v", room[:5])
	}
	clear(first)
	if !slices.Equal(room, letters()) || !slices.Equal(second, append(letters(), boundary)) {
		t.Errorf("Extended shares memory: %v, %v", room, second)
	}
}

func TestValid(t *testing.T) { // P14.1
	with := func(r rune) []api.Letter { return append(letters(), api.Letter{Rune: r}) }
	last := append(make([]api.Rule, 63), api.Rule{From: 'x'})
	for _, c := range []struct {
		name   string
		a      []api.Letter
		sandhi []api.Rule
		want   bool
	}{
		{"the example", letters(), example(), true},
		{"no rules", letters(), nil, true},
		{"an empty list of rules", letters(), []api.Rule{}, true},
		{"nothing for nothing", letters(), make([]api.Rule, 1), true},
		{"64 rules", letters(), make([]api.Rule, 64), true},
		{"65 rules", letters(), make([]api.Rule, 65), false},
		{"no letters", nil, nil, false},
		{"no letters, an empty list", []api.Letter{}, example(), false},
		{"one letter", letters()[:1], nil, true},
		{"64 letters", many(64), make([]api.Rule, 1), true},
		{"65 letters", many(65), nil, false},
		{"a letter twice", with('a'), example(), false},
		{"a blank as a letter", with(' '), example(), false},
		{"a surrogate as a letter", with(0xD800), example(), false},
		{"the boundary as a letter", with('='), nil, false},
		{"the boundary as a letter, in front", append([]api.Letter{{Rune: '=', Classes: api.Boundary}}, letters()...), example(), false},
		{"the extended alphabet", Extended(letters()), example(), false},
		{"another letter with the class Boundary", append(letters(), api.Letter{Rune: '|', Classes: api.Boundary}), []api.Rule{{From: '|', To: "a|"}}, true},
		{"From is the boundary", letters(), []api.Rule{{From: '=', To: "a"}}, false},
		{"From is the boundary, which is deleted", letters(), []api.Rule{{From: '='}}, false},
		{"To is the boundary", letters(), []api.Rule{{From: 'a', To: "="}}, false},
		{"To begins with the boundary", letters(), []api.Rule{{To: "=a"}}, false},
		{"To ends with the boundary", letters(), []api.Rule{{From: 'a', To: "tta="}}, false},
		{"From and To are the boundary", letters(), []api.Rule{{From: '=', To: "="}}, false},
		{"the boundary by its rune on the left", letters(), []api.Rule{{From: 'a', Left: []api.Item{{Letters: "="}}}}, true},
		{"the boundary by its rune on the right", letters(), []api.Rule{{From: 'a', Right: []api.Item{{Letters: "a=", Negated: true, Repeated: true}}}}, true},
		{"the boundary by its class", letters(), []api.Rule{{To: "a", Left: mask(api.Boundary), Right: mask(api.Boundary)}}, true},
		{"From is no letter", letters(), []api.Rule{{From: 'x'}}, false},
		{"From is negative", letters(), []api.Rule{{From: -1}}, false},
		{"To is no letter", letters(), []api.Rule{{From: 'a', To: "x"}}, false},
		{"To has four letters", letters(), []api.Rule{{From: 'a', To: "teda"}}, true},
		{"To has five letters", letters(), []api.Rule{{From: 'a', To: "tedat"}}, false},
		{"To is a wrong byte", letters(), []api.Rule{{From: 'a', To: "\xff"}}, false},
		{"three items", letters(), []api.Rule{{Left: make([]api.Item, 3), Right: make([]api.Item, 3)}}, true},
		{"four items on the left", letters(), []api.Rule{{Left: make([]api.Item, 4)}}, false},
		{"four items on the right", letters(), []api.Rule{{Right: make([]api.Item, 4)}}, false},
		{"an item of another letter", letters(), []api.Rule{{Right: []api.Item{{Letters: "=x"}}}}, false},
		{"the last rule is wrong", letters(), last, false},
		{"the first rule is wrong", letters(), append([]api.Rule{{From: '='}}, example()...), false},
	} {
		if Valid(c.a, c.sandhi) != c.want {
			t.Errorf("%s: %v", c.name, !c.want)
		}
	}
	for _, l := range []api.Language{api.Anta(), api.Bero(), api.Cuni(), api.Delu(), api.Emai()} {
		if !Valid(l.Words.Alphabet, l.Sandhi) {
			t.Error(l.Name)
		}
	}
}

func TestAttach(t *testing.T) { // P14.2, P14.4
	byRune := []api.Item{{Letters: "="}}
	double := []api.Rule{{From: 'a', To: "aa"}}
	for _, c := range []struct {
		name         string
		sandhi       []api.Rule
		host, clitic string
		want         string
	}{
		{"example 1", example(), "tat", "e", "tade"},
		{"example 1, a letter lost", example(), "ta", "at", "tat"},
		{"example 1, nothing changed", example(), "tat", "t", "tatt"},
		{"no rules", nil, "tat", "e", "tate"},
		{"no rules, nothing", nil, "", "", ""},
		{"nothing", example(), "", "", ""},
		{"no host", example(), "", "at", "at"},
		{"no clitic", example(), "ta", "", "ta"},
		{"only at the boundary", example(), "atata", "eta", "atataeta"},
		{"the host is lost", example(), "a", "a", "a"},
		{"a rule is fed by an earlier one", append(example()[:1], api.Rule{From: 'd', To: "t", Right: mask(api.Boundary)}), "at", "a", "ata"},
		{"the rules in the other order", []api.Rule{{From: 'd', To: "t", Right: mask(api.Boundary)}, example()[0]}, "ad", "a", "ada"},
		{"the boundary by its rune on the left", []api.Rule{{From: 'a', To: "e", Left: byRune}}, "ta", "aa", "taea"},
		{"the boundary by its rune on the right", []api.Rule{{From: 'a', To: "e", Right: byRune}}, "aa", "aa", "aeaa"},
		{"the boundary by its class on the left", []api.Rule{{From: 'a', Left: mask(api.Boundary)}}, "a", "at", "at"},
		{"inserted before the boundary", []api.Rule{{To: "dd", Right: byRune}}, "a", "e", "adde"},
		{"inserted behind the boundary", []api.Rule{{To: "dd", Left: byRune}}, "a", "e", "adde"},
		{"inserted everywhere, also around the boundary", []api.Rule{{To: "t"}}, "a", "e", "tattet"},
		{"inserted into nothing", []api.Rule{{To: "a"}}, "", "", "aa"},
		{"everywhere", double, "ta", "a", "taaaa"},
		{"at the beginning", []api.Rule{{From: 't', Initial: true}}, "tt", "t", "tt"},
		{"at the end", []api.Rule{{From: 't', To: "d", Final: true}}, "tt", "t", "ttd"},
		{"an end that is the boundary", []api.Rule{{From: 't', To: "d", Right: byRune, Final: true}}, "tt", "", "td"},
		{"over the boundary", []api.Rule{{From: 't', To: "d", Left: []api.Item{{Letters: "e"}, {Repeated: true}}}}, "et", "ata", "edada"},
		{"not over the boundary", []api.Rule{{From: 't', To: "d", Left: []api.Item{{Letters: "e"}, {Mask: api.Boundary, Negated: true, Repeated: true}}}}, "et", "ata", "edata"},
		{"all deleted", []api.Rule{{From: 'a'}, {From: 't'}}, "tat", "at", ""},
		{"the rule without effect", make([]api.Rule, 64), "tat", "at", "tatat"},
	} {
		got, e := Attach(letters(), c.sandhi, c.host, c.clitic)
		if got != c.want || e != api.OK {
			t.Errorf("%s: %q, %d", c.name, got, e)
		}
		if want, ok := attachBy(letters(), c.sandhi, segment(c.host+"+"+c.clitic)); got != want || !ok {
			t.Errorf("%s: %q is not defined as %q", c.name, got, want)
		}
		if is, e := Plain(letters(), c.sandhi, c.host, c.clitic); is != (c.want == c.host+c.clitic) || e != api.OK {
			t.Errorf("%s: Plain = %v, %d", c.name, is, e)
		}
	}
	umlauts := []api.Letter{{Rune: 'ü', Classes: api.Vowel}, {Rune: 'א'}, {Rune: '𐐀'}}
	if got, e := Attach(umlauts, []api.Rule{{From: 'א', To: "𐐀", Left: mask(api.Boundary)}}, "üא", "אü"); got != "üא𐐀ü" || e != api.OK {
		t.Errorf("letters of several bytes: %q, %d", got, e)
	}
}

func TestPlain(t *testing.T) { // P14.4
	swap := []api.Rule{{From: 't', To: "a", Right: mask(api.Boundary)}, {From: 'a', To: "t", Left: mask(api.Boundary)}}
	for _, c := range []struct {
		name         string
		sandhi       []api.Rule
		host, clitic string
		want         bool
	}{
		{"a rule that applies", example(), "tat", "e", false},
		{"no rule that applies", example(), "tat", "t", true},
		{"a letter replaced by itself", []api.Rule{{From: 'a', To: "a"}}, "ta", "at", true},
		{"a letter that is restored", []api.Rule{{From: 'a', To: "e"}, {From: 'e', To: "a"}}, "ta", "at", true},
		{"a letter that moves over the boundary", []api.Rule{{From: 'a', Right: mask(api.Boundary)}, {To: "a", Left: mask(api.Boundary)}}, "ta", "t", true},
		{"as many letters", swap, "tt", "aa", false},
		{"one letter more", []api.Rule{{To: "a", Final: true}}, "", "", false},
		{"no words", nil, "", "", true},
	} {
		if got, e := Plain(letters(), c.sandhi, c.host, c.clitic); got != c.want || e != api.OK {
			t.Errorf("%s: %v, %d", c.name, got, e)
		}
	}
}

func TestAttachErrors(t *testing.T) { // P14.2, P14.4: section Errors
	double := []api.Rule{{From: 'a', To: "aa"}}
	shrinking := append(double, api.Rule{From: 'a'})
	boundary := append(letters(), api.Letter{Rune: '='})
	wrong := []api.Rule{{From: '='}}
	for _, c := range []struct {
		name         string
		a            []api.Letter
		sandhi       []api.Rule
		host, clitic string
		want         api.Errno
	}{
		{"39 and 1 with the boundary", letters(), nil, ts(38), "a", api.OK},
		{"39 and 1 and the boundary", letters(), nil, ts(39), "a", api.ErrTooLarge},
		{"39 and nothing", letters(), nil, ts(39), "", api.OK},
		{"40 and nothing", letters(), nil, ts(40), "", api.ErrTooLarge},
		{"nothing and 39", letters(), nil, "", ts(39), api.OK},
		{"nothing and 40", letters(), nil, "", ts(40), api.ErrTooLarge},
		{"20 and 19", letters(), example(), ts(20), ts(19), api.OK},
		{"20 and 20", letters(), example(), ts(20), ts(20), api.ErrTooLarge},
		{"40 and 40", letters(), example(), ts(40), ts(40), api.ErrTooLarge},
		{"41 letters that a rule would drop", letters(), []api.Rule{{From: 't'}}, ts(39), "a", api.ErrTooLarge},
		{"a cascade to 40", letters(), double, ts(37), "a", api.OK},
		{"a cascade to 41", letters(), double, ts(38), "a", api.ErrTooLarge},
		{"a cascade to 41 and back", letters(), shrinking, ts(38), "a", api.ErrTooLarge},
		{"a cascade to 40 and back", letters(), shrinking, ts(37), "a", api.OK},
		{"another letter in the host", letters(), example(), "tx", "a", api.ErrArgument},
		{"another letter in the clitic", letters(), example(), "t", "ax", api.ErrArgument},
		{"the boundary in the host", letters(), example(), "t=", "a", api.ErrArgument},
		{"the boundary in the clitic", letters(), example(), "t", "=a", api.ErrArgument},
		{"a wrong byte in the host", letters(), example(), "\xff", "a", api.ErrArgument},
		{"a wrong byte in the clitic", letters(), example(), "t", "\xff", api.ErrArgument},
		{"a host of 41", letters(), example(), ts(41), "a", api.ErrArgument},
		{"a clitic of 41", letters(), example(), "t", ts(41), api.ErrArgument},
		{"too large, and a clitic that is no word", letters(), example(), ts(40), "x", api.ErrArgument},
		{"no letters", nil, nil, "", "", api.ErrArgument},
		{"a boundary as a letter", boundary, nil, "t", "a", api.ErrArgument},
		{"a wrong rule", letters(), wrong, "t", "a", api.ErrArgument},
		{"a wrong rule, and too large", letters(), wrong, ts(40), "a", api.ErrArgument},
		{"65 rules", letters(), make([]api.Rule, 65), "t", "a", api.ErrArgument},
	} {
		got, e := Attach(c.a, c.sandhi, c.host, c.clitic)
		if e != c.want || e != api.OK && got != "" {
			t.Errorf("%s: Attach = %q, %d", c.name, got, e)
		}
		is, e := Plain(c.a, c.sandhi, c.host, c.clitic)
		if e != c.want || e != api.OK && is {
			t.Errorf("%s: Plain = %v, %d", c.name, is, e)
		}
		all, e := AttachAll(c.a, c.sandhi, api.Segment{Host: c.host, Clitics: []string{c.clitic}})
		if e != c.want || all != got {
			t.Errorf("%s: AttachAll = %q, %d", c.name, all, e)
		}
	}
}

func TestAttachAll(t *testing.T) { // P14.2
	clitics := func(n int, s string) api.Segment {
		return api.Segment{Host: "tat", Clitics: slices.Repeat([]string{s}, n)}
	}
	drop := []api.Rule{{From: 'e', Right: mask(api.Boundary)}}
	for _, c := range []struct {
		name   string
		sandhi []api.Rule
		s      api.Segment
		want   string
		e      api.Errno
	}{
		{"example 2", example(), segment("tat+e+a"), "tadea", api.OK},
		{"no clitics", example(), segment("tat"), "tat", api.OK},
		{"an empty list of clitics", example(), api.Segment{Host: "ta", Clitics: []string{}}, "ta", api.OK},
		{"the zero value", example(), api.Segment{}, "", api.OK},
		{"a host of 40 letters without clitics", example(), segment(ts(40)), ts(40), api.OK},
		{"a host that a rule would change", []api.Rule{{From: 't', To: "d"}}, segment("tat"), "tat", api.OK},
		{"one at a time", drop, segment("te+e+e+t"), "tt", api.OK},
		{"in their order", example(), segment("tat+a+e"), "tadae", api.OK},
		{"each to the result of the previous one", []api.Rule{{From: 't', To: "tt", Right: mask(api.Boundary)}}, segment("t+++"), "tttt", api.OK},
		{"three clitics", example(), segment("tat+t+at+e"), "tattade", api.OK},
		{"the empty clitic", drop, segment("te+"), "t", api.OK},
		{"the empty clitic between others", example(), segment("tat+t++e"), "tatte", api.OK},
		{"many empty clitics", nil, clitics(2000, ""), "tat", api.OK},
		{"many empty clitics that change the host", []api.Rule{{From: 'a', To: "e"}, {From: 't', Initial: true}}, clitics(100, ""), "et", api.OK},
		{"many clitics that are lost", []api.Rule{{From: 'a', Left: mask(api.Boundary)}}, clitics(2000, "a"), "tat", api.OK},
		{"36 clitics", nil, clitics(36, "a"), "tat" + as(36), api.OK},
		{"37 clitics", nil, clitics(37, "a"), "", api.ErrTooLarge},
		{"too large in the first step", nil, segment(ts(40) + "+"), "", api.ErrTooLarge},
		{"too large in the second step", nil, segment("t+" + ts(38) + "+"), "t" + ts(38), api.OK},
		{"too large in the third step", nil, segment("t+" + ts(38) + "++a"), "", api.ErrTooLarge},
		{"too large in the second step, while a later one would shorten it", []api.Rule{{From: 'a'}}, segment(ts(38) + "++" + as(2) + "+a"), "", api.ErrTooLarge},
		{"too large in a cascade", []api.Rule{{From: 'a', To: "aa", Right: mask(api.Boundary)}}, segment(ts(36) + "+a++"), ts(36) + "aaa", api.OK},
		{"too large in a later cascade", []api.Rule{{From: 'a', To: "aa", Right: mask(api.Boundary)}}, segment(ts(36) + "+a+++"), "", api.ErrTooLarge},
		{"a host that is no word", example(), segment("tax+e"), "", api.ErrArgument},
		{"a host that is no word, without clitics", example(), segment("tax"), "", api.ErrArgument},
		{"a host of 41 letters", example(), segment(ts(41)), "", api.ErrArgument},
		{"the boundary as a host", example(), segment("="), "", api.ErrArgument},
		{"a first clitic that is no word", example(), segment("tat+x+a"), "", api.ErrArgument},
		{"a last clitic that is no word", example(), segment("tat+a+e+\xff"), "", api.ErrArgument},
		{"a last clitic that is no word, after a step that is too large", example(), segment(ts(40) + "+a+x"), "", api.ErrArgument},
		{"a wrong rule", []api.Rule{{To: "="}}, segment("tat"), "", api.ErrArgument},
		{"a wrong rule, and too large", []api.Rule{{To: "="}}, segment(ts(40) + "+a"), "", api.ErrArgument},
	} {
		if got, e := AttachAll(letters(), c.sandhi, c.s); got != c.want || e != c.e {
			t.Errorf("%s: %q, %d", c.name, got, e)
		}
	}
	if _, e := AttachAll(nil, nil, api.Segment{}); e != api.ErrArgument {
		t.Errorf("no letters: %d", e)
	}
	if _, e := AttachAll(Extended(letters()), nil, segment("a=")); e != api.ErrArgument {
		t.Errorf("the extended alphabet: %d", e)
	}
}

func TestAnyArguments(t *testing.T) { // P1 of DOC.md
	lists := [][]api.Letter{nil, letters(), Extended(letters()), many(64), many(65), many(1000), {{Rune: -1, Classes: math.MaxUint32}, {Rune: 0}}}
	rules := [][]api.Rule{nil, example(), make([]api.Rule, 64), make([]api.Rule, 1000), {{From: -1, To: "\xff"}}, {{From: math.MaxInt32, Left: make([]api.Item, 1000)}}, {{To: as(10000)}}, {{Right: []api.Item{{Letters: strings.Repeat("a=", 10000)}}}}}
	words := []string{"", "a", "tat", "=", "\xff", "\x00", "ā", as(40), as(41), as(100000), strings.Repeat("\xc3", 1000)}
	for _, a := range lists {
		for _, r := range rules {
			Extended(a)
			Valid(a, r)
			for _, w := range words {
				Attach(a, r, w, w)
				Plain(a, r, "a", w)
				AttachAll(a, r, api.Segment{Host: w, Clitics: words})
				AttachAll(a, r, api.Segment{Clitics: make([]string, 20)})
				Split(a, r, words, words, w)
				Split(a, r, words[:3], words[:3], w)
			}
		}
	}
}
