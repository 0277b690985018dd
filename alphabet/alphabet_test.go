package alphabet

import (
	"math/rand"
	"slices"
	"strings"
	"testing"

	"pentaglot/api"
)

// small is the alphabet of the chapter's examples: b, a, e.
func small() []api.Letter {
	return []api.Letter{
		{Rune: 'b', Classes: api.Consonant},
		{Rune: 'a', Classes: api.Vowel | api.Back},
		{Rune: 'e', Classes: api.Vowel | api.Front},
	}
}

// twice is a list in which a occurs twice, with different classes.
func twice() []api.Letter {
	return []api.Letter{
		{Rune: 'b', Classes: api.Consonant},
		{Rune: 'a', Classes: api.Vowel | api.Back},
		{Rune: 'e', Classes: api.Vowel | api.Front},
		{Rune: 'a', Classes: api.Nasal},
	}
}

// many returns n letters with distinct runes, without classes.
func many(n int) []api.Letter {
	var out []api.Letter
	for i := range n {
		out = append(out, api.Letter{Rune: rune(0x100 + i)})
	}
	return out
}

// alone returns a list of one letter.
func alone(r rune) []api.Letter { return []api.Letter{{Rune: r}} }

// builtIn returns the alphabets of the five languages.
func builtIn() map[string][]api.Letter {
	out := map[string][]api.Letter{}
	for _, l := range []api.Language{api.Anta(), api.Bero(), api.Cuni(), api.Delu(), api.Emai()} {
		out[l.Name] = l.Words.Alphabet
	}
	return out
}

func TestValid(t *testing.T) { // P1.1
	for _, c := range []struct {
		name string
		a    []api.Letter
		want bool
	}{
		{"example", small(), true},
		{"nil", nil, false},
		{"empty", []api.Letter{}, false},
		{"1 letter", many(1), true},
		{"64 letters", many(64), true},
		{"65 letters", many(65), false},
		{"a rune twice", twice(), false},
		{"a rune twice, at the end of 64", append(many(63), many(1)...), false},
		{"letter 0", alone(0), false},
		{"tab", alone('\t'), false},
		{"blank", alone(32), false},
		{"33", alone(33), true},
		{"negative", alone(-1), false},
		{"before the surrogates", alone(0xD7FF), true},
		{"first surrogate", alone(0xD800), false},
		{"last surrogate", alone(0xDFFF), false},
		{"after the surrogates", alone(0xE000), true},
		{"replacement character", alone(0xFFFD), true},
		{"greatest rune", alone(0x10FFFF), true},
		{"beyond the greatest rune", alone(0x110000), false},
		{"greatest number", alone(1<<31 - 1), false},
		{"wrong rune in the last place", append(small(), api.Letter{Rune: ' '}), false},
		{"equal classes", append(small(), api.Letter{Rune: 'o', Classes: api.Vowel | api.Back}), true},
	} {
		if got := Valid(c.a); got != c.want {
			t.Errorf("%s: Valid = %v, want %v", c.name, got, c.want)
		}
	}
	for name, a := range builtIn() {
		if !Valid(a) {
			t.Errorf("the alphabet of %s is not valid", name)
		}
	}
}

func TestIndexAndClasses(t *testing.T) { // P1.2
	strange := []api.Letter{{Rune: 0, Classes: 1}, {Rune: -1, Classes: 2}, {Rune: 0xD800, Classes: 4}}
	for _, c := range []struct {
		name    string
		a       []api.Letter
		r       rune
		index   int
		classes uint32
	}{
		{"first", small(), 'b', 0, api.Consonant},
		{"last", small(), 'e', 2, api.Vowel | api.Front},
		{"none", small(), 'x', -1, 0},
		{"rune 0 is no letter", small(), 0, -1, 0},
		{"negative", small(), -1, -1, 0},
		{"nil", nil, 'a', -1, 0},
		{"first of two", twice(), 'a', 1, api.Vowel | api.Back},
		{"rune 0 as a letter", strange, 0, 0, 1},
		{"negative as a letter", strange, -1, 1, 2},
		{"surrogate as a letter", strange, 0xD800, 2, 4},
		{"beyond 64 letters", many(100), 0x100 + 99, 99, 0},
	} {
		if got := Index(c.a, c.r); got != c.index {
			t.Errorf("%s: Index = %d, want %d", c.name, got, c.index)
		}
		if got := Classes(c.a, c.r); got != c.classes {
			t.Errorf("%s: Classes = %b, want %b", c.name, got, c.classes)
		}
	}
}

func TestIsWord(t *testing.T) { // P1.3
	accented := []api.Letter{{Rune: 'ü'}, {Rune: 0xFFFD}}
	for _, c := range []struct {
		name string
		a    []api.Letter
		s    string
		want bool
	}{
		{"example", small(), "abba", true},
		{"another rune", small(), "abc", false},
		{"another rune first", small(), "cab", false},
		{"empty", small(), "", true},
		{"blank", small(), "a b", false},
		{"not UTF-8", small(), "a\xff", false},
		{"40 runes", small(), strings.Repeat("a", 40), true},
		{"41 runes", small(), strings.Repeat("a", 41), false},
		{"40 runes of 2 bytes", accented, strings.Repeat("ü", 40), true},
		{"41 runes of 2 bytes", accented, strings.Repeat("ü", 41), false},
		{"half of a rune", accented, "ü\xc3", false},
		{"U+FFFD is a letter", accented, "\uFFFD", true},
		{"a wrong byte is not U+FFFD", accented, "\xff", false},
		{"empty over no letters", nil, "", true},
		{"a over no letters", nil, "a", false},
		{"a rune twice in the list", twice(), "ae", true},
	} {
		if got := IsWord(c.a, c.s); got != c.want {
			t.Errorf("%s: IsWord(%q) = %v, want %v", c.name, c.s, got, c.want)
		}
	}
}

func TestCompare(t *testing.T) { // P1.4
	replacement := []api.Letter{{Rune: 0xFFFD}, {Rune: 'a'}}
	for _, c := range []struct {
		name string
		a    []api.Letter
		s, t string
		want int
	}{
		{"letters", small(), "ba", "be", -1},
		{"order of the alphabet", small(), "b", "a", -1},
		{"another rune", small(), "ba", "bz", -1},
		{"another rune with a small code point", small(), "e", "!", -1},
		{"prefix", small(), "b", "ba", -1},
		{"empty prefix", small(), "", "b", -1},
		{"empty", small(), "", "", 0},
		{"equal", small(), "ab", "ab", 0},
		{"first difference decides", small(), "bee", "ab", -1},
		{"longer and earlier", small(), "baaa", "be", -1},
		{"other runes by code point", small(), "y", "z", -1},
		{"other runes of several bytes", small(), "aé", "aü", -1},
		{"no letters", nil, "a", "b", -1},
		{"wrong byte as U+FFFD", small(), "\xff", "\uFFFD", 0},
		{"two wrong bytes", small(), "\xfe", "\xff", 0},
		{"U+FFFD before a greater rune", small(), "\xff", "\U00010000", -1},
		{"wrong bytes each count", small(), "\xe2", "\xe2\x82", -1},
		{"wrong byte as the letter U+FFFD", replacement, "\xff", "a", -1},
		{"first index of two", twice(), "a", "e", -1},
		{"beyond MaxWord", small(), strings.Repeat("a", 100), strings.Repeat("a", 99) + "e", -1},
	} {
		if got := Compare(c.a, c.s, c.t); got != c.want {
			t.Errorf("%s: Compare(%q, %q) = %d, want %d", c.name, c.s, c.t, got, c.want)
		}
		if got := Compare(c.a, c.t, c.s); got != -c.want {
			t.Errorf("%s: Compare(%q, %q) = %d, want %d", c.name, c.t, c.s, got, -c.want)
		}
	}
}

func TestSort(t *testing.T) { // P1.4
	for _, c := range []struct {
		name        string
		a           []api.Letter
		words, want []string
	}{
		{"example", small(), []string{"e", "ab", "ba", "a"}, []string{"ba", "a", "ab", "e"}},
		{"nil", small(), nil, nil},
		{"repeated", small(), []string{"a", "b", "a"}, []string{"b", "a", "a"}},
		{"equal ones remain in their order", small(), []string{"\xff", "b", "\uFFFD", "\xfe"}, []string{"b", "\xff", "\uFFFD", "\xfe"}},
		{"equal ones, the other way round", small(), []string{"\xfe", "\uFFFD", "b", "\xff"}, []string{"b", "\xfe", "\uFFFD", "\xff"}},
		{"no letters", nil, []string{"b", "", "a"}, []string{"", "a", "b"}},
		{"other runes", small(), []string{"z", "!", "e"}, []string{"e", "!", "z"}},
	} {
		if got := Sort(c.a, c.words); !slices.Equal(got, c.want) {
			t.Errorf("%s: Sort = %q, want %q", c.name, got, c.want)
		}
	}
}

// An unstable sort may leave a short list or one of equal strings in its order, but not this one.
func TestSortLongListIsStable(t *testing.T) { // P1.4
	var given, want []string
	for i := range 300 {
		given = append(given, "eba"[i%3:i%3+1]+string([]byte{byte(0x80 + i%64)}))
	}
	for _, first := range []string{"b", "a", "e"} {
		for _, w := range given {
			if strings.HasPrefix(w, first) {
				want = append(want, w)
			}
		}
	}
	if got := Sort(small(), given); !slices.Equal(got, want) {
		t.Errorf("Sort = %q, want %q", got, want)
	}
}

func TestSelect(t *testing.T) { // P1.5
	for _, c := range []struct {
		name string
		a    []api.Letter
		mask uint32
		want []rune
	}{
		{"example", small(), api.Vowel, []rune{'a', 'e'}},
		{"all bits are needed", small(), api.Vowel | api.Front, []rune{'e'}},
		{"some bits are not enough", small(), api.Consonant | api.Front, nil},
		{"empty mask", small(), 0, []rune{'b', 'a', 'e'}},
		{"highest bit", []api.Letter{{Rune: '+', Classes: api.Boundary}, {Rune: 'a'}}, api.Boundary, []rune{'+'}},
		{"nil", nil, 0, nil},
		{"the second entry of a rune", twice(), api.Nasal, []rune{'a'}},
		{"both entries of a rune", twice(), 0, []rune{'b', 'a', 'e', 'a'}},
	} {
		if got := Select(c.a, c.mask); !slices.Equal(got, c.want) {
			t.Errorf("%s: Select = %q, want %q", c.name, got, c.want)
		}
	}
}

func TestPartner(t *testing.T) { // P1.6
	more := append(small(), api.Letter{Rune: 'i', Classes: api.Vowel | api.Front}, api.Letter{Rune: 'u', Classes: api.Vowel | api.Front | api.Rounded})
	zero := []api.Letter{{Rune: 'a', Classes: api.Vowel}, {Rune: 0, Classes: api.Front}}
	for _, c := range []struct {
		name   string
		a      []api.Letter
		r      rune
		toggle uint32
		want   rune
		ok     bool
	}{
		{"example", small(), 'a', api.Front | api.Back, 'e', true},
		{"and back", small(), 'e', api.Front | api.Back, 'a', true},
		{"first of several", more, 'a', api.Front | api.Back, 'e', true},
		{"all classes count", more, 'a', api.Front | api.Back | api.Rounded, 'u', true},
		{"empty toggle", more, 'i', 0, 'e', true},
		{"no such letter", small(), 'b', api.Front | api.Back, 0, false},
		{"not a letter", small(), 'x', 0, 0, false},
		{"not a letter, though its classes would be found", []api.Letter{{Rune: 'a'}}, 'x', 0, 0, false},
		{"nil", nil, 'a', 0, 0, false},
		{"classes of the first entry", twice(), 'a', api.Vowel | api.Back | api.Nasal, 'a', true},
		{"classes of the second entry do not count", twice(), 'a', api.Nasal | api.Consonant, 0, false},
		{"a partner that is a second entry", twice(), 'b', api.Consonant | api.Nasal, 'a', true},
		{"rune 0 as a letter", zero, 'a', api.Vowel | api.Front, 0, true},
	} {
		if got, ok := Partner(c.a, c.r, c.toggle); got != c.want || ok != c.ok {
			t.Errorf("%s: Partner = %q, %v, want %q, %v", c.name, got, ok, c.want, c.ok)
		}
	}
}

func TestWords(t *testing.T) { // P1.7
	two := Words(small(), 2)
	if want := []string{"bb", "ba", "be", "ab", "aa", "ae", "eb", "ea", "ee"}; !slices.Equal(two, want) {
		t.Errorf("Words = %q, want %q", two, want)
	}
	for _, c := range []struct {
		name  string
		a     []api.Letter
		n     int
		count int
	}{
		{"n = 0", small(), 0, 1},
		{"n = 0 with 64 letters", many(64), 0, 1},
		{"n = -1", small(), -1, 0},
		{"least n", small(), -1 << 63, 0},
		{"n = 40 with one letter", many(1), 40, 1},
		{"n = 41 with one letter", many(1), 41, 0},
		{"greatest n", many(1), 1<<63 - 1, 0},
		{"256 strings", many(2), 8, 256},
		{"512 strings", many(2), 9, 0},
		{"256 strings of 4 letters", many(4), 4, 256},
		{"256 strings of 16 letters", many(16), 2, 256},
		{"289 strings", many(17), 2, 0},
		{"64 strings", many(64), 1, 64},
		{"3 to the power of 5", small(), 5, 243},
		{"3 to the power of 6", small(), 6, 0},
		{"3 to the power of 40", small(), 40, 0},
		{"64 to the power of 40", many(64), 40, 0},
		{"nil", nil, 0, 0},
		{"65 letters", many(65), 1, 0},
		{"65 letters, n = 0", many(65), 0, 0},
		{"a rune twice", twice(), 1, 0},
		{"a rune twice, n = 0", twice(), 0, 0},
		{"blank", alone(' '), 1, 0},
	} {
		got := Words(c.a, c.n)
		if len(got) != c.count {
			t.Errorf("%s: %d words, want %d", c.name, len(got), c.count)
			continue
		}
		for i, w := range got {
			if len([]rune(w)) != c.n || !IsWord(c.a, w) {
				t.Errorf("%s: %q is not a word of %d letters", c.name, w, c.n)
			}
			if i > 0 && Compare(c.a, got[i-1], w) != -1 {
				t.Errorf("%s: %q does not come after %q", c.name, w, got[i-1])
			}
		}
	}
	if got := Words(many(1), 40); !slices.Equal(got, []string{strings.Repeat("\u0100", 40)}) {
		t.Errorf("Words = %q", got)
	}
}

// words returns the words of at most 3 letters.
func words(a []api.Letter) []string {
	var out []string
	for n := range 4 {
		out = append(out, Words(a, n)...)
	}
	return out
}

func TestCompareIsTotalOrder(t *testing.T) { // P1.8
	a := small()
	list := words(a)
	for _, s := range list {
		for _, u := range list {
			d := Compare(a, s, u)
			if d != -Compare(a, u, s) || (d == 0) != (s == u) {
				t.Fatalf("Compare(%q, %q) = %d", s, u, d)
			}
			for _, v := range list {
				if d <= 0 && Compare(a, u, v) <= 0 && Compare(a, s, v) > 0 {
					t.Fatalf("not transitive: %q, %q, %q", s, u, v)
				}
			}
		}
	}
}

func TestPartnerOfPartner(t *testing.T) { // P1.8
	for name, a := range builtIn() {
		for _, l := range a {
			for toggle := range uint32(1 << 12) {
				r, ok := Partner(a, l.Rune, toggle)
				if !ok {
					continue
				}
				q, ok := Partner(a, r, toggle)
				if !ok || Classes(a, q) != l.Classes {
					t.Errorf("%s: the partner of the partner of %q by %b is %q, %v", name, l.Rune, toggle, q, ok)
				}
			}
		}
	}
}

// byDefinition compares as the chapter says it, over lists of runes.
func byDefinition(a []api.Letter, s, t string) int {
	rank := func(r rune) int {
		if i := slices.IndexFunc(a, func(l api.Letter) bool { return l.Rune == r }); i >= 0 {
			return i
		}
		return len(a) + int(r)
	}
	return slices.CompareFunc([]rune(s), []rune(t), func(r, q rune) int { return rank(r) - rank(q) })
}

// sign returns -1, 0 or 1.
func sign(n int) int { return max(-1, min(1, n)) }

// randomString returns up to 5 pieces, among them wrong bytes.
func randomString(source *rand.Rand) string {
	pieces := []string{"a", "b", "e", "z", "!", "ü", "\x00", "\xff", "\xe2\x82", "\uFFFD", "\U0010FFFF"}
	out := ""
	for range source.Intn(6) {
		out += pieces[source.Intn(len(pieces))]
	}
	return out
}

// randomLetters returns a list that is often no alphabet.
func randomLetters(source *rand.Rand) []api.Letter {
	runes := []rune{'a', 'b', 'e', 'z', 0xFC, 0, -1, 0xD800, 0xFFFD, 0x110000}
	var out []api.Letter
	for range source.Intn(8) {
		out = append(out, api.Letter{Rune: runes[source.Intn(len(runes))], Classes: source.Uint32() & 7})
	}
	return out
}

func TestAllArguments(t *testing.T) { // P1 of DOC.md, and the order by definition
	source := rand.New(rand.NewSource(1))
	for range 20000 {
		a, s, u := randomLetters(source), randomString(source), randomString(source)
		before := slices.Clone(a)
		if got, want := Compare(a, s, u), sign(byDefinition(a, s, u)); got != want {
			t.Fatalf("Compare(%v, %q, %q) = %d, want %d", a, s, u, got, want)
		}
		r := rune(source.Intn(300) - 2)
		Valid(a)
		IsWord(a, s)
		Classes(a, r)
		Partner(a, r, source.Uint32()&7)
		Select(a, source.Uint32()&7)
		if got := Words(a, source.Intn(50)-5); len(got) > 0 && !Valid(a) {
			t.Fatalf("Words(%v) = %q", a, got)
		}
		if !slices.Equal(a, before) {
			t.Fatalf("the list %v was changed to %v", before, a)
		}
	}
}

func TestSortSharesNoMemory(t *testing.T) { // the chapter's last sentence of 'Guarantees'
	given := []string{"e", "ab", "ba", "a"}
	got := Sort(small(), given)
	if want := []string{"e", "ab", "ba", "a"}; !slices.Equal(given, want) {
		t.Errorf("the argument was changed to %q", given)
	}
	given[0] = "x"
	if want := []string{"ba", "a", "ab", "e"}; !slices.Equal(got, want) {
		t.Errorf("the result was changed to %q", got)
	}
	sorted := []string{"b", "a"}
	Sort(small(), sorted)[0] = "x"
	if sorted[0] != "b" {
		t.Error("the result shares memory with the argument")
	}
}
