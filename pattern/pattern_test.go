package pattern

import (
	"math/rand"
	"slices"
	"strings"
	"testing"

	"pentaglot/api"
)

// example is the pattern of the chapter's first example.
func example() []api.Item {
	return []api.Item{{Mask: api.Consonant, Repeated: true}, {Mask: api.Vowel}}
}

func TestValid(t *testing.T) { // P6.1
	replacement := []api.Letter{{Rune: '\uFFFD'}}
	for _, c := range []struct {
		name string
		a    []api.Letter
		p    []api.Item
		want bool
	}{
		{"the example", letters(), example(), true},
		{"the empty pattern", letters(), nil, true},
		{"no letters", nil, nil, true},
		{"no letters, with items", nil, make([]api.Item, 3), true},
		{"no letters, with a letter in an item", nil, []api.Item{{Letters: "a"}}, false},
		{"65 letters", many(65), example(), true},
		{"66 letters", many(66), nil, false},
		{"the class Boundary", []api.Letter{{Rune: '#', Classes: api.Boundary}, {Rune: 'a'}}, []api.Item{{Mask: api.Boundary}}, true},
		{"the least and the largest rune", []api.Letter{{Rune: 33}, {Rune: 0x10FFFF}, {Rune: 0xD7FF}, {Rune: 0xE000}}, []api.Item{{Letters: "!\U0010FFFF"}}, true},
		{"three items", letters(), make([]api.Item, 3), true},
		{"four items", letters(), make([]api.Item, 4), false},
		{"all letters, some twice", letters(), []api.Item{{Letters: "tkeaat"}}, true},
		{"classes that no letter has", letters(), []api.Item{{Mask: 1<<30 | api.Boundary, Negated: true, Repeated: true}}, true},
		{"U+FFFD", replacement, []api.Item{{Letters: "\uFFFD"}}, true},
		{"a wrong byte, which is not U+FFFD here", replacement, []api.Item{{Letters: "\xff"}}, false},
		{"a wrong byte after U+FFFD", replacement, []api.Item{{}, {Letters: "\uFFFD\xff"}}, false},
	} {
		if got := Valid(c.a, c.p); got != c.want {
			t.Errorf("%s: %v", c.name, got)
		}
	}
	for _, a := range improper() {
		if Valid(a, nil) || Valid(a, example()) {
			t.Error(a)
		}
	}
	for _, p := range bad() {
		if Valid(letters(), p) {
			t.Error(p)
		}
	}
}

func TestAdmits(t *testing.T) { // P6.1
	special := []api.Letter{{Rune: '\uFFFD', Classes: api.Vowel}, {Rune: '#', Classes: api.Boundary}, {Rune: 'a', Classes: 1<<30 | api.Vowel}}
	for _, c := range []struct {
		name string
		a    []api.Letter
		x    api.Item
		want string
	}{
		{"everything", letters(), api.Item{}, "aekt"},
		{"everything, Repeated", letters(), api.Item{Repeated: true}, "aekt"},
		{"nothing", letters(), api.Item{Negated: true}, ""},
		{"a class", letters(), api.Item{Mask: api.Vowel}, "ae"},
		{"two classes", letters(), api.Item{Mask: api.Vowel | api.Front}, "e"},
		{"a class that no letter has", letters(), api.Item{Mask: api.Vowel | api.Nasal}, ""},
		{"not two classes", letters(), api.Item{Mask: api.Vowel | api.Front, Negated: true}, "akt"},
		{"not a class that no letter has", letters(), api.Item{Mask: api.Nasal, Negated: true}, "aekt"},
		{"some letters", letters(), api.Item{Letters: "ta"}, "at"},
		{"some letters of a class", letters(), api.Item{Letters: "ta", Mask: api.Vowel}, "a"},
		{"not some letters", letters(), api.Item{Letters: "ta", Negated: true}, "ek"},
		{"not some letters of a class", letters(), api.Item{Letters: "ta", Mask: api.Vowel, Negated: true}, "ekt"},
		{"Negated and Repeated", letters(), api.Item{Letters: "ta", Mask: api.Vowel, Negated: true, Repeated: true}, "ekt"},
		{"a letter that is no letter", letters(), api.Item{Letters: "z"}, ""},
		{"a letter that is no letter, Negated", letters(), api.Item{Letters: "z", Negated: true}, "aekt"},
		{"a letter beside one that is no letter", letters(), api.Item{Letters: "zk"}, "k"},
		{"a wrong byte", letters(), api.Item{Letters: "\xff"}, ""},
		{"a letter beside a wrong byte", letters(), api.Item{Letters: "\xffk\xc3"}, "k"},
		{"a wrong byte counts as U+FFFD", special, api.Item{Letters: "\xff"}, "\uFFFD"},
		{"U+FFFD", special, api.Item{Letters: "\uFFFD"}, "\uFFFD"},
		{"not a wrong byte", special, api.Item{Letters: "a\xff", Negated: true}, "#"},
		{"a boundary", special, api.Item{Mask: api.Boundary}, "#"},
		{"a class of a language", special, api.Item{Mask: 1 << 30}, "a"},
		{"no letters", nil, api.Item{}, ""},
	} {
		for _, r := range append([]rune{'a', 'e', 'k', 't', '#', '\uFFFD', 'z', 0, -1, 0xD800, 0x110000}, []rune(c.want)...) {
			if got := Admits(c.a, c.x, r); got != slices.Contains([]rune(c.want), r) {
				t.Errorf("%s: %q", c.name, r)
			}
		}
	}
	for _, a := range improper() {
		if Admits(a, api.Item{}, a[0].Rune) || Admits(a, api.Item{Negated: true, Letters: "z"}, a[0].Rune) || Admits(a, api.Item{}, a[len(a)-1].Rune) {
			t.Error(a)
		}
	}
	if a := many(65); !Admits(a, api.Item{}, a[64].Rune) {
		t.Error("the last of 65 letters")
	}
}

func TestMatches(t *testing.T) { // P6.2
	one := func(x api.Item) []api.Item { return []api.Item{x} }
	for _, c := range []struct {
		name     string
		p        []api.Item
		yes, not []string
	}{
		{"the example", example(), []string{"a", "ka", "ktke"}, []string{"", "k", "aa", "kak"}},
		{"the empty pattern", nil, []string{""}, []string{"a", "k", "aa"}},
		{"one letter", one(api.Item{}), []string{"a", "t"}, []string{"", "aa"}},
		{"any letters", one(api.Item{Repeated: true}), []string{"", "a", "katet"}, nil},
		{"no letter", one(api.Item{Negated: true}), nil, []string{"", "a", "t"}},
		{"no letters, Repeated", one(api.Item{Negated: true, Repeated: true}), []string{""}, []string{"a", "t"}},
		{"Negated and Repeated", one(api.Item{Mask: api.Vowel, Negated: true, Repeated: true}), []string{"", "k", "ktt"}, []string{"a", "ka", "kak"}},
		{"three items", make([]api.Item, 3), []string{"ate"}, []string{"", "at", "atek"}},
		{"the same letters before and after", []api.Item{{Repeated: true}, {Letters: "a"}, {Repeated: true}}, []string{"a", "aaa", "taak", "ka"}, []string{"", "tek"}},
		{"a Repeated item leaves the last letter", []api.Item{{Letters: "a", Repeated: true}, {Letters: "a"}}, []string{"a", "aa", "aaaa"}, []string{"", "t", "at"}},
		{"three Repeated items", []api.Item{{Letters: "a", Repeated: true}, {Letters: "t", Repeated: true}, {Letters: "a", Repeated: true}}, []string{"", "a", "t", "aatta", "aa", "tt", "ta"}, []string{"tat", "atat", "k"}},
	} {
		for _, s := range c.yes {
			if !Matches(letters(), c.p, s) {
				t.Errorf("%s does not match %q", c.name, s)
			}
		}
		for _, s := range c.not {
			if Matches(letters(), c.p, s) {
				t.Errorf("%s matches %q", c.name, s)
			}
		}
	}
	if !Matches(nil, nil, "") || !Matches(nil, one(api.Item{Repeated: true}), "") || Matches(nil, one(api.Item{}), "") {
		t.Error("no letters")
	}
	if long := strings.Repeat("kt", 100000); !Matches(letters(), example(), long+"e") || Matches(letters(), example(), long) {
		t.Error("a long string")
	}
}

func TestPrefixesAndSuffixes(t *testing.T) { // P6.2
	wide := []api.Letter{{Rune: 'é', Classes: api.Vowel}, {Rune: '\U00010000', Classes: api.Consonant}}
	for _, c := range []struct {
		name     string
		a        []api.Letter
		p        []api.Item
		s        string
		pre, suf []int
	}{
		{"the example", letters(), example(), "kaa", []int{2}, []int{1}},
		{"the example, with a longer suffix", letters(), example(), "akte", []int{1}, []int{1, 2, 3}},
		{"the empty pattern", letters(), nil, "kat", []int{0}, []int{0}},
		{"the empty string", letters(), nil, "", []int{0}, []int{0}},
		{"the empty string and an item", letters(), make([]api.Item, 1), "", nil, nil},
		{"the empty string and a Repeated item", letters(), []api.Item{{Repeated: true}}, "", []int{0}, []int{0}},
		{"all lengths", letters(), []api.Item{{Repeated: true}}, "kat", []int{0, 1, 2, 3}, []int{0, 1, 2, 3}},
		{"consonants", letters(), []api.Item{{Mask: api.Consonant, Repeated: true}}, "aktek", []int{0}, []int{0, 1}},
		{"the order of the items", letters(), []api.Item{{Letters: "k"}, {Letters: "a", Repeated: true}, {Letters: "t"}}, "ktkaat", []int{2}, []int{4}},
		{"lengths are those of runes", wide, []api.Item{{Mask: api.Vowel}, {Mask: api.Consonant, Repeated: true}}, "é\U00010000\U00010000", []int{1, 2, 3}, []int{3}},
		{"no prefix and no suffix", letters(), []api.Item{{Letters: "t"}}, "kak", nil, nil},
	} {
		if got := Prefixes(c.a, c.p, c.s); !slices.Equal(got, c.pre) {
			t.Errorf("%s: prefixes %v", c.name, got)
		}
		if got := Suffixes(c.a, c.p, c.s); !slices.Equal(got, c.suf) {
			t.Errorf("%s: suffixes %v", c.name, got)
		}
	}
}

func TestPatternModel(t *testing.T) { // P6.2, P6.3, P6.7
	r := rand.New(rand.NewSource(1))
	a := letters()
	words := strs(a, 4)
	for range 300 {
		p := randomPattern(r)
		given := slices.Clone(p)
		x, e := Acceptor(a, p)
		if e != api.OK || !equal(x, acceptor(a, p)) {
			t.Fatalf("Acceptor(%v) = %v, %d", p, x, e)
		}
		for _, s := range words {
			word := spell(a, s)
			want := matches(p, word)
			if Matches(a, p, s) != want || Accepts(a, x, s) != want {
				t.Fatalf("Matches(%v, %q), not %v", p, s, want)
			}
			var pre, suf []int
			for n := range len(word) + 1 {
				if matches(p, word[:n]) {
					pre = append(pre, n)
				}
				if matches(p, word[len(word)-n:]) {
					suf = append(suf, n)
				}
			}
			if got := Prefixes(a, p, s); !slices.Equal(got, pre) {
				t.Fatalf("Prefixes(%v, %q) = %v, not %v", p, s, got, pre)
			}
			if got := Suffixes(a, p, s); !slices.Equal(got, suf) {
				t.Fatalf("Suffixes(%v, %q) = %v, not %v", p, s, got, suf)
			}
		}
		if !slices.Equal(p, given) || !slices.Equal(a, letters()) {
			t.Fatal("arguments are changed", given)
		}
	}
}

func TestInvalidMatches(t *testing.T) { // P6.2: letters that are not proper, no pattern, no string over the letters
	check := func(a []api.Letter, p []api.Item, s string) {
		if Matches(a, p, s) || len(Prefixes(a, p, s)) > 0 || len(Suffixes(a, p, s)) > 0 {
			t.Errorf("%v, %v, %q", a, p, s)
		}
	}
	for _, a := range improper() {
		check(a, nil, "")
		check(a, []api.Item{{Repeated: true}}, string(a[0].Rune))
	}
	for _, p := range bad() {
		for i := range p {
			p[i].Repeated = true
		}
		check(letters(), p, "")
		check(letters(), p, "a")
	}
	for _, s := range []string{"z", "az", "za", "\xff", "a\xff", "a\xc3", "\xed\xa0\x80", "\x00", " ", "A"} {
		check(letters(), nil, s)
		check(letters(), []api.Item{{Repeated: true}}, s)
		check(letters(), []api.Item{{Repeated: true, Negated: true}}, s)
	}
	check(nil, []api.Item{{Repeated: true}}, "a")
	check([]api.Letter{{Rune: '\uFFFD'}}, []api.Item{{Repeated: true}}, "\xff")
	if a := []api.Letter{{Rune: '\uFFFD'}}; !Matches(a, []api.Item{{Repeated: true}}, "\uFFFD\uFFFD") {
		t.Error("U+FFFD as a letter")
	}
}
