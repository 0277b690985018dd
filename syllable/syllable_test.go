package syllable

import (
	"math"
	"slices"
	"strings"
	"testing"

	"pentaglot/api"
)

func TestValid(t *testing.T) { // P13.1
	lists := func(n, masks int) [][]uint32 { return slices.Repeat([][]uint32{make([]uint32, masks)}, n) }
	for _, c := range []struct {
		name string
		p    api.Phonotactics
		want bool
	}{
		{"the example", example(), true},
		{"the zero value", api.Phonotactics{}, false},
		{"no onsets", onsets(1, 1), true},
		{"an empty list of onsets", onsets(1, 1, lists(0, 0)...), true},
		{"1 list", onsets(1, 1, lists(1, 1)...), true},
		{"32 lists", onsets(1, 1, lists(32, 4)...), true},
		{"33 lists", onsets(1, 1, lists(33, 1)...), false},
		{"33 empty lists", onsets(1, 1, lists(33, 0)...), false},
		{"a nil list", onsets(1, 1, nil), true},
		{"an empty list", onsets(1, 1, []uint32{}), true},
		{"4 masks", onsets(1, 1, make([]uint32, 4)), true},
		{"5 masks", onsets(1, 1, make([]uint32, 5)), false},
		{"5 masks in the first list", onsets(1, 1, make([]uint32, 5), nil), false},
		{"5 masks in the last of 32 lists", onsets(1, 1, append(lists(31, 1), make([]uint32, 5))...), false},
		{"all masks", onsets(1, 1, []uint32{0, 1, math.MaxUint32, api.Boundary}), true},
		{"the same list twice", onsets(1, 1, []uint32{2}, []uint32{2}), true},
	} {
		if Valid(c.p) != c.want {
			t.Errorf("%s: %v", c.name, !c.want)
		}
	}
	for _, n := range []int{math.MinInt, -8, -1, 0, 1, 2, 7, 8, 9, 10, math.MaxInt} {
		want := n >= 1 && n <= 8
		if Valid(onsets(n, 1)) != want || Valid(onsets(1, n)) != want || Valid(onsets(n, n)) != want {
			t.Errorf("MinLeft or MinRight %d", n)
		}
	}
	for _, l := range []api.Language{api.Anta(), api.Bero(), api.Cuni(), api.Delu(), api.Emai()} {
		if !Valid(l.Phonotactics) {
			t.Error(l.Name)
		}
	}
}

func TestNuclei(t *testing.T) { // P13.2
	twice := append(letters(), api.Letter{Rune: 't', Classes: api.Vowel}, api.Letter{Rune: 'a', Classes: api.Consonant})
	strange := []api.Letter{{Rune: 0, Classes: api.Vowel}, {Rune: ' ', Classes: math.MaxUint32}, {Rune: -1, Classes: api.Vowel}}
	for _, c := range []struct {
		name string
		a    []api.Letter
		word string
		want []int
	}{
		{"a word", letters(), "tantrina", []int{1, 5, 7}},
		{"the empty word", letters(), "", nil},
		{"no vowels", letters(), "trn", nil},
		{"vowels only", letters(), "aia", []int{0, 1, 2}},
		{"runes that are no letters", letters(), "xayüi", []int{1, 4}},
		{"runes of several bytes", long(), "šüxאš𐐀", []int{1, 3, 5}},
		{"no letters", nil, "aia", nil},
		{"more classes than Vowel", []api.Letter{{Rune: 'a', Classes: api.Front | api.Vowel | api.Voiced}, {Rune: 'e', Classes: api.Front}}, "ea", []int{1}},
		{"consonants that are vowels", []api.Letter{{Rune: 'r', Classes: api.Vowel | api.Consonant}}, "rr", []int{0, 1}},
		{"letters twice in the list", twice, "tat", []int{1}},
		{"letters that no alphabet has", strange, "a\x00 a", []int{1, 2}},
		{"a wrong byte is a rune", letters(), "a\xffa\xc3", []int{0, 2}},
		{"a wrong byte as U+FFFD, a vowel", long(), "š\xff\uFFFD", []int{1, 2}},
		{"more than 40 runes", letters(), strings.Repeat("t", 50) + "a", []int{50}},
		{"more than 64 letters", append(many(100), letters()...), "ta", []int{1}},
	} {
		if got := Nuclei(c.a, c.word); !slices.Equal(got, c.want) {
			t.Errorf("%s: %v", c.name, got)
		}
	}
}

func TestOnset(t *testing.T) { // P13.3
	four := onsets(2, 2, []uint32{api.Nasal, api.Stop, api.Liquid, api.Consonant})
	invalid := onsets(0, -1, []uint32{api.Stop, api.Stop, api.Stop, api.Stop, api.Stop})
	for range 40 {
		invalid.Onsets = append(invalid.Onsets, []uint32{api.Nasal, api.Nasal})
	}
	twice := append(letters(), api.Letter{Rune: 't', Classes: api.Nasal})
	for _, c := range []struct {
		name string
		a    []api.Letter
		p    api.Phonotactics
		in   string // onsets, separated by blanks
		out  string // other strings
	}{
		{"the example", letters(), example(), "t r n tr", "rt nr tt trr ttr ntr a i at ta x tx xr T"},
		{"no onsets", letters(), onsets(1, 1), "", "t tr a"},
		{"an empty list", letters(), onsets(1, 1, []uint32{}), "", "t tr a"},
		{"a mask of no class", letters(), onsets(1, 1, []uint32{0}, []uint32{0, api.Nasal}), "t r n a i tn an nn", "x tr xn nx = \xff"},
		{"a mask of two classes", letters(), onsets(1, 1, []uint32{api.Consonant | api.Nasal}), "n", "t r a nn"},
		{"classes that no letter has together", letters(), onsets(1, 1, []uint32{api.Stop | api.Nasal}), "", "t n tn"},
		{"4 masks", letters(), four, "ntrt ntrr ntrn", "n nt ntr ntra ntrtt tntr ntrx"},
		{"phonotactics that are not valid", letters(), invalid, "ttttt nn", "tttt tttttt t n nnn"},
		{"vowels", letters(), onsets(1, 1, []uint32{api.Vowel, api.Consonant}), "at in", "aa a ta"},
		{"runes of several bytes", long(), onsets(1, 1, []uint32{api.Consonant, api.Front}), "šü -ü", "š ü üš šא"},
		{"letters twice in the list", twice, onsets(1, 1, []uint32{api.Nasal}, []uint32{api.Stop, api.Nasal}), "n tn", "t tt"},
		{"no letters", nil, onsets(1, 1, []uint32{0}), "", "a t"},
		{"a wrong byte", letters(), onsets(1, 1, []uint32{0}, []uint32{0, 0}), "t", "\xff t\xff \xfft \xc3"},
		{"a wrong byte as U+FFFD, a letter", long(), onsets(1, 1, []uint32{api.Vowel, api.Vowel}), "\uFFFD\uFFFD \uFFFD\xff \xff\xff", "\xff \xc3š"},
		{"a blank as a letter", []api.Letter{{Rune: '\t', Classes: 4}}, onsets(1, 1, []uint32{4}), "", "\t\t t"},
	} {
		if !Onset(c.a, c.p, "") {
			t.Errorf("%s: the empty string", c.name)
		}
		for s := range strings.SplitSeq(c.in, " ") {
			if !Onset(c.a, c.p, s) {
				t.Errorf("%s: %q is none", c.name, s)
			}
		}
		for s := range strings.SplitSeq(c.out, " ") {
			if Onset(c.a, c.p, s) {
				t.Errorf("%s: %q is one", c.name, s)
			}
		}
	}
	if !Onset([]api.Letter{{Rune: '\t', Classes: 4}}, onsets(1, 1, []uint32{4}), "\t") || !Onset(nil, api.Phonotactics{}, "") {
		t.Error("lists that are no alphabets")
	}
	if masks := make([]uint32, 100000); !Onset(letters(), onsets(0, 0, masks), strings.Repeat("a", 100000)) || Onset(letters(), onsets(0, 0, masks), strings.Repeat("a", 99999)) {
		t.Error("many masks")
	}
}

func TestSyllables(t *testing.T) { // P13.4, P13.7
	none := onsets(2, 2)
	whole := onsets(2, 2, []uint32{api.Nasal, api.Stop, api.Liquid})
	four := onsets(2, 2, []uint32{api.Nasal, api.Stop, api.Liquid, api.Consonant})
	empty := onsets(2, 2, []uint32{})
	anything := onsets(2, 2, []uint32{0}, []uint32{0, 0})
	// An onset of which a part is none.
	gap := onsets(2, 2, []uint32{api.Stop, api.Liquid, api.Nasal})
	for _, c := range []struct {
		name  string
		a     []api.Letter
		p     api.Phonotactics
		word  string
		want  string // the syllables, separated by blanks
		heavy string // h for each heavy syllable, l for each other one
	}{
		{"example 1", letters(), example(), "tantrina", "tan tri na", "hll"},
		{"example 2", letters(), example(), "anta", "an ta", "hl"},
		{"example 3", letters(), example(), "aia", "a i a", "lll"},
		{"example 4", letters(), example(), "tn", "tn", "h"},
		{"the empty word", letters(), example(), "", "", ""},
		{"a vowel", letters(), example(), "a", "a", "l"},
		{"a consonant", letters(), example(), "n", "n", "h"},
		{"no vowels, but an onset", letters(), example(), "tr", "tr", "h"},
		{"two vowels", letters(), example(), "ia", "i a", "ll"},
		{"no suffix is an onset", letters(), none, "atrna", "atrn a", "hl"},
		{"a part is an onset", letters(), example(), "anntra", "ann tra", "hl"},
		{"the last rune only is an onset", letters(), example(), "artna", "art na", "hl"},
		{"the whole is an onset", letters(), whole, "antra", "a ntra", "ll"},
		{"the whole has more runes than an onset", letters(), whole, "anntra", "an ntra", "hl"},
		{"a suffix between an onset and the whole is none", letters(), gap, "atrna", "a trna", "ll"},
		{"the onset is not at the end", letters(), gap, "atrnta", "atrnt a", "hl"},
		{"four masks", letters(), four, "antrna", "a ntrna", "ll"},
		{"four masks, five runes", letters(), four, "anntrna", "an ntrna", "hl"},
		{"an empty list of masks", letters(), empty, "anta", "ant a", "hl"},
		{"masks of no class", letters(), anything, "anntra", "ann tra", "hl"},
		{"masks of no class take no vowels", letters(), anything, "atiara", "a ti a ra", "llll"},
		{"before the first vowel no suffix is an onset", letters(), none, "tna", "tna", "l"},
		{"before the first vowel a part is an onset", letters(), example(), "nrtra", "nrtra", "l"},
		{"before the first vowel the whole is an onset", letters(), example(), "trana", "tra na", "ll"},
		{"after the last vowel no suffix is an onset", letters(), none, "nart", "nart", "h"},
		{"after the last vowel a part is an onset", letters(), example(), "naratnt", "na ratnt", "lh"},
		{"after the last vowel the whole is an onset", letters(), example(), "natatr", "na tatr", "lh"},
		{"several clusters", letters(), example(), "trantratnari", "tran trat na ri", "hhll"},
		{"letters of several bytes", long(), onsets(1, 1, []uint32{api.Consonant}), "ššüš-א𐐀š", "ššüš -א 𐐀š", "hlh"},
		{"U+FFFD as a vowel", long(), onsets(1, 1), "š\uFFFDšü", "š\uFFFDš ü", "hl"},
		{"a consonant that is also a vowel", []api.Letter{{Rune: 'r', Classes: api.Vowel | api.Consonant}}, example(), "rr", "r r", "ll"},
		{"letters without classes", many(64), example(), "āĂ", "āĂ", "h"},
		{"40 letters", letters(), example(), strings.Repeat("ta", 20), strings.TrimSpace(strings.Repeat("ta ", 20)), strings.Repeat("l", 20)},
		{"40 consonants", letters(), example(), strings.Repeat("t", 40), strings.Repeat("t", 40), "h"},
		{"38 consonants", letters(), example(), "a" + strings.Repeat("t", 38) + "a", "a" + strings.Repeat("t", 37) + " ta", "hl"},
	} {
		got, e := Split(c.a, c.p, c.word)
		if want := strings.Fields(c.want); !slices.Equal(got, want) || e != api.OK {
			t.Errorf("%s: %q, %d", c.name, got, e)
		}
		heavy, e := Heavy(c.a, c.p, c.word)
		text := ""
		for _, h := range heavy {
			text += map[bool]string{true: "h", false: "l"}[h]
		}
		if text != c.heavy || e != api.OK {
			t.Errorf("%s: Heavy = %v, %d", c.name, heavy, e)
		}
	}
}

func TestPoints(t *testing.T) { // P13.5
	with := func(left, right int) api.Phonotactics { return onsets(left, right, []uint32{api.Consonant}) }
	for _, c := range []struct {
		name string
		a    []api.Letter
		p    api.Phonotactics
		word string
		want []int
	}{
		{"example 1", letters(), example(), "tantrina", []int{3, 6}},
		{"example 2", letters(), example(), "anta", []int{2}},
		{"example 3", letters(), example(), "aia", nil},
		{"example 4", letters(), example(), "tn", nil},
		{"the empty word", letters(), with(1, 1), "", nil},
		{"a vowel", letters(), with(1, 1), "a", nil},
		{"a single syllable", letters(), with(1, 1), "tanttt", nil},
		{"one rune on either side", letters(), with(1, 1), "aia", []int{1, 2}},
		{"one rune before", letters(), with(1, 2), "aia", []int{1}},
		{"one rune behind", letters(), with(2, 1), "aia", []int{2}},
		{"just MinLeft", letters(), with(3, 1), "tantata", []int{3, 5}},
		{"one before MinLeft", letters(), with(4, 1), "tantata", []int{5}},
		{"no point has MinLeft", letters(), with(6, 1), "tantata", nil},
		{"just MinRight", letters(), with(1, 3), "tatanan", []int{2, 4}},
		{"one before MinRight", letters(), with(1, 4), "tatanan", []int{2}},
		{"no point has MinRight", letters(), with(1, 6), "tatanan", nil},
		{"MinLeft 8", letters(), with(8, 1), "tatatatata", []int{8}},
		{"MinLeft 8, one before", letters(), with(8, 1), "atatatatata", []int{9}},
		{"MinRight 8", letters(), with(1, 8), "tatatatata", []int{2}},
		{"MinRight 8, one before", letters(), with(1, 8), "tatatatat", nil},
		{"8 on either side", letters(), with(8, 8), strings.Repeat("ta", 8), []int{8}},
		{"8 on either side, one too few", letters(), with(8, 8), strings.Repeat("ta", 7) + "t", nil},
		{"runes of several bytes", long(), with(2, 2), "šüšאš𐐀", []int{2, 4}},
		{"MinLeft in runes", long(), with(3, 1), "šüšאš𐐀", []int{4}},
		{"MinRight in runes", long(), with(1, 3), "šüšאš𐐀", []int{2}},
		{"no vowels", letters(), with(1, 1), "trntrn", nil},
	} {
		if got, e := Points(c.a, c.p, c.word); !slices.Equal(got, c.want) || e != api.OK {
			t.Errorf("%s: %v, %d", c.name, got, e)
		}
	}
}

func TestErrors(t *testing.T) { // P13.4, P13.5, P13.7: section Errors, P1 of DOC.md
	with := func(r rune) []api.Letter { return append(letters(), api.Letter{Rune: r}) }
	for _, c := range []struct {
		name string
		a    []api.Letter
		p    api.Phonotactics
		word string
		want api.Errno
	}{
		{"the example", letters(), example(), "tantrina", api.OK},
		{"no letters", nil, example(), "", api.ErrArgument},
		{"a letter twice", with('a'), example(), "ta", api.ErrArgument},
		{"a blank as a letter", with(' '), example(), "ta", api.ErrArgument},
		{"a surrogate as a letter", with(0xD800), example(), "ta", api.ErrArgument},
		{"64 letters", append(many(59), letters()...), example(), "ta", api.OK},
		{"65 letters", append(many(60), letters()...), example(), "ta", api.ErrArgument},
		{"the zero value", letters(), api.Phonotactics{}, "ta", api.ErrArgument},
		{"MinLeft 0", letters(), onsets(0, 1), "ta", api.ErrArgument},
		{"MinLeft 1", letters(), onsets(1, 1), "ta", api.OK},
		{"MinLeft 8", letters(), onsets(8, 1), "ta", api.OK},
		{"MinLeft 9", letters(), onsets(9, 1), "ta", api.ErrArgument},
		{"MinRight 0", letters(), onsets(1, 0), "ta", api.ErrArgument},
		{"MinRight 8", letters(), onsets(1, 8), "ta", api.OK},
		{"MinRight 9", letters(), onsets(1, 9), "ta", api.ErrArgument},
		{"32 lists", letters(), onsets(1, 1, make([][]uint32, 32)...), "ta", api.OK},
		{"33 lists", letters(), onsets(1, 1, make([][]uint32, 33)...), "ta", api.ErrArgument},
		{"4 masks", letters(), onsets(1, 1, make([]uint32, 4)), "ta", api.OK},
		{"5 masks", letters(), onsets(1, 1, make([]uint32, 5)), "ta", api.ErrArgument},
		{"another letter", letters(), example(), "tax", api.ErrArgument},
		{"a hyphen", letters(), example(), "ta-na", api.ErrArgument},
		{"a blank", letters(), example(), "ta na", api.ErrArgument},
		{"a wrong byte", letters(), example(), "ta\xff", api.ErrArgument},
		{"a wrong byte is not U+FFFD", long(), example(), "š\xff", api.ErrArgument},
		{"half of a rune", long(), example(), "š\xc3", api.ErrArgument},
		{"40 letters", letters(), example(), strings.Repeat("a", 40), api.OK},
		{"41 letters", letters(), example(), strings.Repeat("a", 41), api.ErrArgument},
		{"a million letters", letters(), example(), strings.Repeat("at", 500000), api.ErrArgument},
		{"40 letters of 4 bytes", long(), example(), strings.Repeat("𐐀", 40), api.OK},
		{"all arguments are wrong", nil, api.Phonotactics{}, "\xff", api.ErrArgument},
	} {
		list, e := Split(c.a, c.p, c.word)
		if e != c.want || (len(list) > 0) != (e == api.OK) {
			t.Errorf("%s: Split = %q, %d", c.name, list, e)
		}
		points, e := Points(c.a, c.p, c.word)
		if e != c.want || e != api.OK && len(points) > 0 {
			t.Errorf("%s: Points = %v, %d", c.name, points, e)
		}
		heavy, e := Heavy(c.a, c.p, c.word)
		if e != c.want || len(heavy) != len(list) {
			t.Errorf("%s: Heavy = %v, %d", c.name, heavy, e)
		}
	}
}

func TestHyphenate(t *testing.T) { // P13.6
	for _, c := range []struct {
		name   string
		word   string
		points []int
		want   string
	}{
		{"the example", "tantrina", []int{3, 6}, "tan-tri-na"},
		{"another order", "tantrina", []int{6, 3}, "tan-tri-na"},
		{"repeated", "tantrina", []int{6, 3, 3, 6, 6, 6}, "tan-tri-na"},
		{"no points", "tantrina", nil, "tantrina"},
		{"an empty list of points", "tantrina", []int{}, "tantrina"},
		{"0", "ta", []int{0}, "ta"},
		{"negative", "ta", []int{-1, -2, math.MinInt}, "ta"},
		{"the first index", "tan", []int{1}, "t-an"},
		{"the last index", "tan", []int{2}, "ta-n"},
		{"the length", "tan", []int{3}, "tan"},
		{"beyond the length", "tan", []int{4, 5, 256, 1 << 32, math.MaxInt}, "tan"},
		{"all of these", "tan", []int{9, 1, -1, 0, 3, 2, 1}, "t-a-n"},
		{"the empty word", "", []int{0, 1, -1}, ""},
		{"a single rune", "a", []int{0, 1}, "a"},
		{"runes of several bytes", "šא𐐀", []int{2}, "šא-𐐀"},
		{"the length in bytes", "šא", []int{3, 4, 2}, "šא"},
		{"a hyphen in the word", "a-b", []int{1, 2}, "a---b"},
		{"U+FFFD", "a\uFFFDb", []int{1, 2}, "a-\uFFFD-b"},
		{"runes that are no letters", " \x00=", []int{1, 2}, " -\x00-="},
		{"more than 40 runes", strings.Repeat("a", 100), []int{50}, strings.Repeat("a", 50) + "-" + strings.Repeat("a", 50)},
		{"a wrong byte", "a\xffb", []int{1, 2}, "a\xffb"},
		{"a wrong byte at the end", "ab\xc3", []int{1}, "ab\xc3"},
		{"a surrogate", "a\xed\xa0\x80", []int{1}, "a\xed\xa0\x80"},
		{"a hyphen and a wrong byte", "a-\xff", []int{1}, "a-\xff"},
	} {
		if got := Hyphenate(c.word, c.points); got != c.want {
			t.Errorf("%s: %q", c.name, got)
		}
	}
}

func TestRejoin(t *testing.T) { // P13.6
	for _, c := range []struct{ s, want string }{
		{"tan-tri-na", "tantrina"},
		{"", ""},
		{"-", ""},
		{"-----", ""},
		{"-ta--na-", "tana"},
		{"tana", "tana"},
		{"š-א-𐐀", "šא𐐀"},
		{"a‐b–c−d", "a‐b–c−d"}, // other dashes
		{"a-\xff-\xc3", "a\xff\xc3"},
		{"\xc3-\xbc", "\xc3\xbc"},
		{"a\uFFFD-b", "a\uFFFDb"},
		{"a b-\nc", "a b\nc"},
	} {
		if got := Rejoin(c.s); got != c.want {
			t.Errorf("%q: %q", c.s, got)
		}
	}
}
