package rewrite

import (
	"math/rand"
	"slices"
	"strings"
	"testing"
	"unicode/utf8"

	"pentaglot/api"
)

func vowel() []api.Item     { return []api.Item{{Mask: api.Vowel}} }
func consonant() []api.Item { return []api.Item{{Mask: api.Consonant}} }

// voice is the rule of the chapter's first example.
func voice() api.Rule { return api.Rule{From: 't', To: "d", Left: vowel(), Right: vowel()} }

// insert is the rule of the second example.
func insert() api.Rule { return api.Rule{To: "e", Left: consonant(), Right: consonant()} }

// harmony is the rule of the third example.
func harmony() api.Rule {
	return api.Rule{From: 'a', To: "e", Left: []api.Item{{Mask: api.Front}, {Mask: api.Consonant, Repeated: true}}}
}

// drop is the rule of the fourth example.
func drop() api.Rule { return api.Rule{From: 't', Final: true} }

func as(n int) string { return strings.Repeat("a", n) }

func TestValid(t *testing.T) { // P7.1
	boundary := append(letters(), api.Letter{Rune: '=', Classes: api.Boundary})
	replacement := []api.Letter{{Rune: '\uFFFD'}}
	for _, c := range []struct {
		name string
		a    []api.Letter
		r    api.Rule
		want bool
	}{
		{"the first example", letters(), voice(), true},
		{"the second example", letters(), insert(), true},
		{"the third example", letters(), harmony(), true},
		{"the fourth example", letters(), drop(), true},
		{"nothing for nothing", letters(), api.Rule{}, true},
		{"anchors alone", letters(), api.Rule{Initial: true, Final: true}, true},
		{"one letter", letters()[:1], api.Rule{From: 'a'}, true},
		{"65 letters", many(65), api.Rule{From: 0x140, To: "\u0140\u0100"}, true},
		{"66 letters", many(66), api.Rule{}, false},
		{"the class Boundary", boundary, voice(), true},
		{"a boundary in a rule", boundary, api.Rule{From: '=', To: "=", Left: []api.Item{{Mask: api.Boundary}}, Right: []api.Item{{Letters: "="}}}, true},
		{"the least and the largest rune", []api.Letter{{Rune: 33}, {Rune: 0x10FFFF}, {Rune: 0xD7FF}, {Rune: 0xE000}}, api.Rule{From: 0x10FFFF, To: "!\uE000"}, true},
		{"To with four runes", letters(), api.Rule{From: 'a', To: "teda"}, true},
		{"To with four long runes", many(8), api.Rule{To: "\u0100\u0101\u0102\u0103"}, true},
		{"From in To", letters(), api.Rule{From: 'a', To: "aaa"}, true},
		{"three items on both sides", letters(), api.Rule{Left: make([]api.Item, 3), Right: make([]api.Item, 3)}, true},
		{"Letters that occur twice", letters(), api.Rule{Left: []api.Item{{Letters: "daaedt"}}}, true},
		{"many Letters", letters(), api.Rule{Right: []api.Item{{Letters: as(100000)}}}, true},
		{"Negated and Repeated", letters(), api.Rule{Left: []api.Item{{Letters: "a", Negated: true, Repeated: true}}}, true},
		{"classes that no letter has", letters(), api.Rule{Right: []api.Item{{Mask: 1<<30 | api.Boundary}}}, true},
		{"U+FFFD", replacement, api.Rule{From: 0xFFFD, To: "\uFFFD", Left: []api.Item{{Letters: "\uFFFD"}}}, true},
		{"a wrong byte in To is not U+FFFD", replacement, api.Rule{To: "\xff"}, false},
		{"a wrong byte in Letters is not U+FFFD", replacement, api.Rule{Left: []api.Item{{Letters: "\xff"}}}, false},
	} {
		if Valid(c.a, c.r) != c.want {
			t.Error(c.name)
		}
	}
	for _, a := range inadmissible() {
		if Valid(a, api.Rule{}) || Valid(a, voice()) {
			t.Error(a)
		}
	}
	for name, r := range wrong() {
		if Valid(letters(), r) {
			t.Error(name)
		}
	}
}

func TestSites(t *testing.T) { // P7.2, P7.3
	with := func(r api.Rule, change func(*api.Rule)) api.Rule {
		change(&r)
		return r
	}
	initial := with(insert(), func(r *api.Rule) { r.Initial = true })
	final := with(insert(), func(r *api.Rule) { r.Final = true })
	notA := []api.Item{{Letters: "a", Negated: true, Repeated: true}}
	for _, c := range []struct {
		name       string
		r          api.Rule
		word, want string
		sites      []int
	}{
		{"example 1", voice(), "atata", "adada", []int{1, 3}},
		{"example 1 at both ends", voice(), "tat", "tat", nil},
		{"example 2", insert(), "ttata", "tetata", []int{1}},
		{"example 2 with Initial", initial, "ttata", "tetata", []int{1}},
		{"example 2 with Initial, later", initial, "attat", "attat", nil},
		{"example 2 with Initial, twice", initial, "ttta", "tetta", []int{1}},
		{"example 2 with Final", final, "attt", "attet", []int{3}},
		{"example 3", harmony(), "etata", "eteta", []int{2}},
		{"example 3 again", harmony(), "eteta", "etete", []int{4}},
		{"example 3 without a consonant", harmony(), "eaa", "eea", []int{1}},
		{"example 3 with several consonants", harmony(), "etdta", "etdte", []int{4}},
		{"example 4", drop(), "atat", "ata", []int{3}},
		{"example 4, another end", drop(), "ata", "ata", nil},
		{"no contexts", api.Rule{From: 't', To: "d"}, "tatt", "dadd", []int{0, 2, 3}},
		{"deleted everywhere", api.Rule{From: 't'}, "ttt", "", []int{0, 1, 2}},
		{"the letter is not there", api.Rule{From: 't'}, "aed", "aed", nil},
		{"replaced by itself", api.Rule{From: 't', To: "t"}, "at", "at", []int{1}},
		{"replaced by more of it", api.Rule{From: 't', To: "tt"}, "tat", "ttatt", []int{0, 2}},
		{"replaced by four", api.Rule{From: 'a', To: "teda"}, "aa", "tedateda", []int{0, 1}},
		{"inserted before, between and after all letters", api.Rule{To: "e"}, "tat", "eteaete", []int{0, 1, 2, 3}},
		{"four inserted", api.Rule{To: "atat"}, "d", "atatdatat", []int{0, 1}},
		{"nothing inserted", api.Rule{}, "tat", "tat", []int{0, 1, 2, 3}},
		{"inserted in front", api.Rule{To: "e", Initial: true}, "tat", "etat", []int{0}},
		{"inserted behind", api.Rule{To: "e", Final: true}, "tat", "tate", []int{3}},
		{"inserted in front, if there is nothing behind", api.Rule{To: "e", Initial: true, Final: true}, "tat", "tat", nil},
		{"inserted before a vowel", api.Rule{To: "t", Right: vowel()}, "aet", "tatet", []int{0, 1}},
		{"inserted after a vowel", api.Rule{To: "t", Left: vowel()}, "aet", "atett", []int{1, 2}},
		{"the empty word", voice(), "", "", nil},
		{"the empty word, deleted", drop(), "", "", nil},
		{"the empty word, inserted", api.Rule{To: "a"}, "", "a", []int{0}},
		{"the empty word, inserted between the anchors", api.Rule{To: "a", Initial: true, Final: true}, "", "a", []int{0}},
		{"the empty word, inserted after a letter", api.Rule{To: "a", Left: make([]api.Item, 1)}, "", "", nil},
		{"the empty word, inserted after any letters", api.Rule{To: "a", Left: []api.Item{{Repeated: true}}, Initial: true}, "", "a", []int{0}},
		{"Initial without items", api.Rule{From: 't', To: "d", Initial: true}, "ttat", "dtat", []int{0}},
		{"Final without items", api.Rule{From: 't', To: "d", Final: true}, "tatt", "tatd", []int{3}},
		{"Initial and Final without items", api.Rule{From: 't', To: "d", Initial: true, Final: true}, "t", "d", []int{0}},
		{"Initial and Final without items, more letters", api.Rule{From: 't', To: "d", Initial: true, Final: true}, "tt", "tt", nil},
		{"Initial with an item", api.Rule{From: 't', To: "d", Left: vowel(), Initial: true}, "atat", "adat", []int{1}},
		{"Final with an item", api.Rule{From: 't', To: "d", Right: vowel(), Final: true}, "tata", "tada", []int{2}},
		{"Final with two items", api.Rule{From: 't', To: "d", Right: append(vowel(), consonant()...), Final: true}, "tatat", "tadat", []int{2}},
		{"two items on the left, in order", api.Rule{From: 't', To: "d", Left: append(vowel(), consonant()...)}, "attadt", "atdadd", []int{2, 5}},
		{"two items on the right, in order", api.Rule{From: 't', To: "d", Right: append(vowel(), consonant()...)}, "tattetae", "datdetae", []int{0, 3}},
		{"three items on either side", api.Rule{From: 'a', To: "e", Left: make([]api.Item, 3), Right: make([]api.Item, 3)}, "aaaaaaaa", "aaaeeaaa", []int{3, 4}},
		{"an item with Letters", api.Rule{From: 't', To: "d", Right: []api.Item{{Letters: "te"}}}, "tattet", "taddet", []int{2, 3}},
		{"an item with Letters and Mask", api.Rule{From: 't', To: "d", Left: []api.Item{{Letters: "ed", Mask: api.Vowel}}}, "atetdt", "ateddt", []int{3}},
		{"a Negated item needs a letter", api.Rule{From: 't', To: "d", Left: []api.Item{{Letters: "a", Negated: true}}}, "tetat", "tedat", []int{2}},
		{"Negated and Repeated, with Initial", api.Rule{From: 't', To: "d", Left: notA, Initial: true}, "tedtatt", "deddatt", []int{0, 3}},
		{"Negated and Repeated, with Final", api.Rule{From: 't', To: "d", Right: notA, Final: true}, "tatdet", "tadded", []int{2, 5}},
		{"a Repeated item alone restricts nothing", api.Rule{From: 't', To: "d", Left: notA}, "atat", "adad", []int{1, 3}},
		{"an item that admits nothing", api.Rule{From: 't', To: "d", Left: []api.Item{{Negated: true}}}, "tatt", "tatt", nil},
		{"a Repeated item leaves a letter for the next one", api.Rule{From: 't', To: "d", Left: []api.Item{{Letters: "a", Repeated: true}, {Letters: "a"}}, Initial: true}, "aaat", "aaad", []int{3}},
		{"a site destroys the context of the next one", api.Rule{From: 't', To: "a", Left: consonant()}, "tttt", "taaa", []int{1, 2, 3}},
		{"a site destroys the context of the one before", api.Rule{From: 't', To: "a", Right: consonant()}, "tttt", "aaat", []int{0, 1, 2}},
		{"a site would create the context of the next one", api.Rule{From: 't', To: "a", Left: vowel()}, "attt", "aatt", []int{1}},
		{"an insertion would create the context of the next one", api.Rule{To: "a", Right: []api.Item{{}, {Mask: api.Vowel}}}, "tta", "tata", []int{1}},
	} {
		if got := Sites(letters(), c.r, c.word); !slices.Equal(got, c.sites) {
			t.Errorf("%s: the sites are %v", c.name, got)
		}
		if got, e := Apply(letters(), c.r, c.word); got != c.want || e != api.OK {
			t.Errorf("%s: the result is %q, %d", c.name, got, e)
		}
	}
}

func TestBoundary(t *testing.T) { // P7.2, P7.3: letters of the class Boundary, runes of several bytes, 65 letters
	a := append(letters(), api.Letter{Rune: '=', Classes: api.Boundary}, api.Letter{Rune: 'é', Classes: api.Vowel}, api.Letter{Rune: '\U0001F600'})
	for _, c := range []struct {
		r          api.Rule
		word, want string
		sites      []int
	}{
		{api.Rule{From: 't', To: "d", Left: vowel(), Right: []api.Item{{Mask: api.Boundary}, {Mask: api.Vowel}}}, "tat=e", "tad=e", []int{2}},
		{api.Rule{From: 'a', Right: []api.Item{{Letters: "="}}}, "ta=at", "t=at", []int{1}},
		{api.Rule{From: 'é', To: "\U0001F600\U0001F600", Left: []api.Item{{Letters: "é"}}}, "ééé", "é\U0001F600\U0001F600\U0001F600\U0001F600", []int{1, 2}},
		{api.Rule{To: "é", Left: []api.Item{{Letters: "\U0001F600"}}}, "\U0001F600t\U0001F600", "\U0001F600ét\U0001F600é", []int{1, 3}},
	} {
		if got := Sites(a, c.r, c.word); !slices.Equal(got, c.sites) {
			t.Error(c.word, got)
		}
		if got, e := Apply(a, c.r, c.word); got != c.want || e != api.OK {
			t.Errorf("%q: %q, %d", c.word, got, e)
		}
	}
	last := string(many(65)[64].Rune)
	if got, e := Apply(many(65), api.Rule{From: 0x140, To: "\u0100", Left: []api.Item{{Letters: last}}}, last+last+last); got != last+"\u0100\u0100" || e != api.OK {
		t.Error(got, e)
	}
}

func TestModel(t *testing.T) { // P7.2 to P7.6, against the definitions
	r := rand.New(rand.NewSource(1))
	for range 20000 {
		x, y, w := randomRule(r), randomRule(r), randomWord(r, 8)
		if got, want := Sites(letters(), x, w), sitesBy(letters(), x, w); !slices.Equal(got, want) {
			t.Fatalf("Sites(%+v, %q) = %v, not %v", x, w, got, want)
		}
		xw, yw := resultBy(letters(), x, w), resultBy(letters(), y, w)
		if got, e := Apply(letters(), x, w); !same(got, e, xw) {
			t.Fatalf("Apply(%+v, %q) = %q, %d, not %q", x, w, got, e, xw)
		}
		if len(xw) > api.MaxWord || len(yw) > api.MaxWord {
			continue
		}
		if got, e := Feeds(letters(), x, y, w); e != api.OK || got != (len(sitesBy(letters(), y, xw)) > len(sitesBy(letters(), y, w))) {
			t.Fatalf("Feeds(%+v, %+v, %q) = %v, %d", x, y, w, got, e)
		}
		xy, yx := resultBy(letters(), y, xw), resultBy(letters(), x, yw)
		if got, e := Cascade(letters(), []api.Rule{x, y}, w); !same(got, e, xy) {
			t.Fatalf("Cascade(%+v, %+v, %q) = %q, %d", x, y, w, got, e)
		}
		want := api.OK
		if len(xy) > api.MaxWord || len(yx) > api.MaxWord {
			want = api.ErrTooLarge
		}
		if got, e := Commute(letters(), x, y, w); e != want || got != (want == api.OK && xy == yx) {
			t.Fatalf("Commute(%+v, %+v, %q) = %v, %d", x, y, w, got, e)
		}
	}
}

// same reports whether a result is want, or the error for a result that is too long.
func same(got string, e api.Errno, want string) bool {
	if utf8.RuneCountInString(want) > api.MaxWord {
		return got == "" && e == api.ErrTooLarge
	}
	return got == want && e == api.OK
}

func TestApplyLimits(t *testing.T) { // P7.3: 40 and 41 runes
	for _, c := range []struct {
		name       string
		r          api.Rule
		word, want string
		e          api.Errno
	}{
		{"a word of 40 runes", api.Rule{From: 'a', To: "e"}, as(40), strings.Repeat("e", 40), api.OK},
		{"a word of 40 runes, all deleted", api.Rule{From: 'a'}, as(40), "", api.OK},
		{"a word of 41 runes", api.Rule{From: 'a'}, as(41), "", api.ErrArgument},
		{"a result of 40 runes", api.Rule{From: 'a', To: "tt"}, as(20), strings.Repeat("t", 40), api.OK},
		{"a result of 41 runes", api.Rule{From: 'a', To: "tt"}, as(20) + "t", "", api.ErrTooLarge},
		{"an insertion with 40 runes", api.Rule{To: "t", Final: true}, as(39), as(39) + "t", api.OK},
		{"an insertion with 41 runes", api.Rule{To: "t", Final: true}, as(40), "", api.ErrTooLarge},
		{"an insertion everywhere with 39 runes", api.Rule{To: "t"}, as(19), strings.Repeat("ta", 19) + "t", api.OK},
		{"an insertion everywhere with 41 runes", api.Rule{To: "t"}, as(20), "", api.ErrTooLarge},
		{"the largest result", api.Rule{To: "tttt"}, as(40), "", api.ErrTooLarge},
		{"too many sites, but nothing inserted", api.Rule{}, as(40), as(40), api.OK},
	} {
		if got, e := Apply(letters(), c.r, c.word); got != c.want || e != c.e {
			t.Errorf("%s: %q, %d", c.name, got, e)
		}
	}
	// Runes are counted, not bytes.
	long := strings.Repeat("\u0100", 40)
	if got, e := Apply(many(2), api.Rule{From: 0x100, To: "\u0101"}, long); got != strings.Repeat("\u0101", 40) || e != api.OK {
		t.Error(got, e)
	}
	if got := Sites(letters(), api.Rule{}, as(40)); len(got) != 41 || got[40] != 40 {
		t.Error(got)
	}
}

func TestCascade(t *testing.T) { // P7.4
	e := func(from rune, to string) api.Rule { return api.Rule{From: from, To: to} }
	sixtyFour := func(r api.Rule) []api.Rule { return slices.Repeat([]api.Rule{r}, 64) }
	double := api.Rule{From: 'a', To: "aa"}
	for _, c := range []struct {
		name  string
		rules []api.Rule
		word  string
		want  []string
		e     api.Errno
	}{
		{"no rules", nil, "tat", []string{"tat"}, api.OK},
		{"no rules and no letters", nil, "", []string{""}, api.OK},
		{"one rule", []api.Rule{voice()}, "ata", []string{"ata", "ada"}, api.OK},
		{"the rules of the examples", []api.Rule{harmony(), harmony(), voice()}, "etata", []string{"etata", "eteta", "etete", "edede"}, api.OK},
		{"in their order", []api.Rule{e('t', "d"), e('d', "e")}, "t", []string{"t", "d", "e"}, api.OK},
		{"in the opposite order", []api.Rule{e('d', "e"), e('t', "d")}, "t", []string{"t", "t", "d"}, api.OK},
		{"results that repeat", []api.Rule{e('d', "e"), e('d', "t")}, "at", []string{"at", "at", "at"}, api.OK},
		{"a result of 40 runes", []api.Rule{double, double}, as(10), []string{as(10), as(20), as(40)}, api.OK},
		{"a result of 44 runes", []api.Rule{double, double}, as(11), nil, api.ErrTooLarge},
		{"too large in between", []api.Rule{double, double, e('a', "")}, as(11), nil, api.ErrTooLarge},
		{"too large at first", []api.Rule{double, e('a', "")}, as(21), nil, api.ErrTooLarge},
		{"smaller before it grows", []api.Rule{e('t', ""), double}, as(20) + "t", []string{as(20) + "t", as(20), as(40)}, api.OK},
		{"64 rules", sixtyFour(api.Rule{From: 'a', To: "e", Initial: true}), "aa", append([]string{"aa"}, slices.Repeat([]string{"ea"}, 64)...), api.OK},
		{"64 rules, too large at the end", append(sixtyFour(api.Rule{})[1:], double), as(21), nil, api.ErrTooLarge},
		{"65 rules", append(sixtyFour(api.Rule{}), api.Rule{}), "a", nil, api.ErrArgument},
		{"a million rules", make([]api.Rule, 1000000), "a", nil, api.ErrArgument},
		{"not valid after it is too large", []api.Rule{double, {From: 'x'}}, as(21), nil, api.ErrArgument},
	} {
		got, e := Trace(letters(), c.rules, c.word)
		if e != c.e || !slices.Equal(got, c.want) {
			t.Errorf("%s: Trace returns %q, %d", c.name, got, e)
		}
		last := ""
		if len(c.want) > 0 {
			last = c.want[len(c.want)-1]
		}
		if got, e := Cascade(letters(), c.rules, c.word); e != c.e || got != last {
			t.Errorf("%s: Cascade returns %q, %d", c.name, got, e)
		}
	}
}

func TestFeeds(t *testing.T) { // P7.5
	turn := func(from rune, to string) api.Rule { return api.Rule{From: from, To: to} }
	for _, c := range []struct {
		name string
		r, s api.Rule
		word string
		want bool
		e    api.Errno
	}{
		{"a site more", turn('d', "t"), voice(), "ada", true, api.OK},
		{"as many sites", turn('d', "t"), voice(), "ata", false, api.OK},
		{"as many sites, elsewhere", drop(), drop(), "att", false, api.OK},
		{"fewer sites", turn('t', "d"), voice(), "atata", false, api.OK},
		{"more and fewer sites", turn('a', "t"), turn('t', "a"), "at", true, api.OK},
		{"the rule feeds itself", harmony(), harmony(), "etatata", false, api.OK},
		{"an insertion feeds an insertion", api.Rule{To: "t"}, api.Rule{To: "a"}, "", true, api.OK},
		{"a deletion", turn('t', ""), api.Rule{From: 'a', Left: vowel()}, "ata", true, api.OK},
		{"no site, nowhere", turn('t', "d"), turn('a', "e"), "t", false, api.OK},
		{"the second rule would be too large", turn('t', "a"), turn('a', "tttt"), strings.Repeat("t", 40), true, api.OK},
		{"40 runes", turn('a', "tt"), turn('t', ""), as(20), true, api.OK},
		{"41 runes", turn('a', "tt"), turn('t', ""), as(20) + "e", false, api.ErrTooLarge},
		{"not valid and too large", turn('a', "tt"), turn('x', ""), as(21), false, api.ErrArgument},
	} {
		if got, e := Feeds(letters(), c.r, c.s, c.word); got != c.want || e != c.e {
			t.Errorf("%s: %v, %d", c.name, got, e)
		}
	}
}

func TestCommute(t *testing.T) { // P7.6
	turn := func(from rune, to string) api.Rule { return api.Rule{From: from, To: to} }
	for _, c := range []struct {
		name string
		r, s api.Rule
		word string
		want bool
		e    api.Errno
	}{
		{"one feeds the other", turn('d', "t"), voice(), "ada", false, api.OK},
		{"the same rule", voice(), voice(), "ata", true, api.OK},
		{"other letters", turn('t', "d"), turn('a', "e"), "tata", true, api.OK},
		{"no sites", turn('d', "t"), voice(), "eae", true, api.OK},
		{"the contexts do not meet", drop(), harmony(), "etat", true, api.OK},
		{"different insertions", api.Rule{To: "a", Final: true}, api.Rule{To: "e", Final: true}, "t", false, api.OK},
		{"the empty word", turn('a', "t"), turn('t', "a"), "", true, api.OK},
		{"40 runes in both orders", turn('a', "aa"), turn('t', "tt"), as(10) + strings.Repeat("t", 10), true, api.OK},
		{"too large in both orders", turn('a', "aa"), turn('t', "tt"), as(21), false, api.ErrTooLarge},
		{"too large in the first order only", turn('a', "aa"), turn('a', ""), as(21), false, api.ErrTooLarge},
		{"too large in the second order only", turn('a', ""), turn('a', "aa"), as(21), false, api.ErrTooLarge},
		{"not valid and too large", turn('a', "aa"), turn('x', ""), as(21), false, api.ErrArgument},
	} {
		if got, e := Commute(letters(), c.r, c.s, c.word); got != c.want || e != c.e {
			t.Errorf("%s: %v, %d", c.name, got, e)
		}
	}
}

// refuse checks that all functions refuse these arguments, whatever the place of r in a list.
func refuse(t *testing.T, name string, a []api.Letter, r api.Rule, word string) {
	t.Helper()
	good := api.Rule{}
	if got := Sites(a, r, word); len(got) != 0 {
		t.Errorf("%s: Sites returns %v", name, got)
	}
	if got, e := Apply(a, r, word); got != "" || e != api.ErrArgument {
		t.Errorf("%s: Apply returns %q, %d", name, got, e)
	}
	for _, rules := range [][]api.Rule{{r}, {r, good, good}, {good, r, good}, {good, good, r}} {
		if got, e := Cascade(a, rules, word); got != "" || e != api.ErrArgument {
			t.Errorf("%s: Cascade returns %q, %d", name, got, e)
		}
		if got, e := Trace(a, rules, word); len(got) != 0 || e != api.ErrArgument {
			t.Errorf("%s: Trace returns %q, %d", name, got, e)
		}
	}
	for _, f := range []func(a []api.Letter, r, s api.Rule, word string) (bool, api.Errno){Feeds, Commute} {
		for _, pair := range [][2]api.Rule{{r, good}, {good, r}, {r, r}} {
			if got, e := f(a, pair[0], pair[1], word); got || e != api.ErrArgument {
				t.Errorf("%s: Feeds or Commute returns %v, %d", name, got, e)
			}
		}
	}
}

func TestInvalid(t *testing.T) { // P7.2 to P7.6, P1
	for name, r := range wrong() {
		refuse(t, name, letters(), r, "ata")
		refuse(t, name, letters(), r, "")
	}
	for _, w := range wrongWords() {
		refuse(t, "a string that is no word", letters(), voice(), w)
		refuse(t, "a string that is no word", letters(), api.Rule{To: "a"}, w)
		for _, f := range []func() (string, api.Errno){
			func() (string, api.Errno) { return Cascade(letters(), nil, w) },
			func() (string, api.Errno) {
				l, e := Trace(letters(), nil, w)
				return strings.Join(l, ""), e
			},
		} {
			if got, e := f(); got != "" || e != api.ErrArgument {
				t.Errorf("%q without rules: %q, %d", w, got, e)
			}
		}
	}
	for _, a := range inadmissible() {
		refuse(t, "letters that are not admissible", a, api.Rule{}, "")
		if got, e := Cascade(a, nil, ""); got != "" || e != api.ErrArgument {
			t.Errorf("%v without rules: %q, %d", a, got, e)
		}
		if got, e := Trace(a, nil, ""); len(got) != 0 || e != api.ErrArgument {
			t.Errorf("%v without rules: %q, %d", a, got, e)
		}
	}
	refuse(t, "a wrong byte is not U+FFFD", []api.Letter{{Rune: 0xFFFD}}, api.Rule{}, "\xff")
}

func TestArgumentsStay(t *testing.T) { // the rules on memory
	a, r := letters(), api.Rule{From: 't', To: "d", Left: append(vowel(), consonant()...), Right: append(consonant(), vowel()...)}
	rules := []api.Rule{r, voice()}
	Sites(a, r, "atttta")
	Apply(a, r, "atttta")
	Trace(a, rules, "atttta")
	Feeds(a, r, voice(), "atttta")
	Commute(a, r, voice(), "atttta")
	if !slices.Equal(a, letters()) || !slices.Equal(r.Left, append(vowel(), consonant()...)) || !slices.Equal(r.Right, append(consonant(), vowel()...)) || rules[0].From != 't' || rules[1].To != "d" {
		t.Error("an argument changed")
	}
}
