package matching

import (
	"slices"
	"strings"
	"testing"

	"pentaglot/api"
)

// letters are two vowels and two consonants.
func letters() []api.Letter {
	return []api.Letter{{Rune: 'a', Classes: api.Vowel}, {Rune: 'e', Classes: api.Vowel | api.Front}, {Rune: 'k', Classes: api.Consonant}, {Rune: 't', Classes: api.Consonant}}
}

func TestPlaces(t *testing.T) { // P6.1, P7.1
	if at, ok := Places(letters()); !ok || len(at) != 4 || at['a'] != 0 || at['t'] != 3 {
		t.Error(at, ok)
	}
	if at, ok := Places(nil); !ok || len(at) != 0 {
		t.Error(at, ok)
	}
	var many []api.Letter
	for i := range 65 {
		many = append(many, api.Letter{Rune: rune(33 + i)})
	}
	if at, ok := Places(many); !ok || len(at) != 65 {
		t.Error(len(at), ok)
	}
	if _, ok := Places(append(many, api.Letter{Rune: 0x10FFFF})); ok {
		t.Error("66 letters")
	}
	for _, r := range []rune{'a', 'k', 32, 0, -1, 0xD800, 0xDFFF, 0x110000} {
		if _, ok := Places(append(letters(), api.Letter{Rune: r})); ok {
			t.Error(r)
		}
	}
}

func TestRead(t *testing.T) { // P6.2, P7.1: also strings in which a wrong byte is not the letter U+FFFD
	at, _ := Places(append(letters(), api.Letter{Rune: 0xFFFD}))
	if got, ok := Read(at, "tea\uFFFD"); !ok || !slices.Equal(got, []int{3, 1, 0, 4}) {
		t.Error(got, ok)
	}
	if got, ok := Read(at, ""); !ok || len(got) != 0 {
		t.Error(got, ok)
	}
	for _, s := range []string{"x", "ax", "\xff", "a\xc3", " "} {
		if got, ok := Read(at, s); ok || len(got) != 0 {
			t.Errorf("%q: %v", s, got)
		}
	}
}

func TestIsPattern(t *testing.T) { // P6.1, P7.1
	at, _ := Places(letters())
	if !IsPattern(at, nil) || !IsPattern(at, make([]api.Item, 3)) || !IsPattern(at, []api.Item{{Letters: "tak"}, {Letters: strings.Repeat("a", 1000)}}) {
		t.Error("a pattern")
	}
	if IsPattern(at, make([]api.Item, 4)) || IsPattern(at, []api.Item{{Letters: "x"}}) || IsPattern(at, []api.Item{{}, {Letters: "a\xff"}}) {
		t.Error("no pattern")
	}
}

func TestAdmits(t *testing.T) { // P6.1
	for _, c := range []struct {
		x    api.Item
		want string
	}{
		{api.Item{}, "aekt"},
		{api.Item{Negated: true}, ""},
		{api.Item{Mask: api.Vowel}, "ae"},
		{api.Item{Mask: api.Vowel | api.Front}, "e"},
		{api.Item{Letters: "ta"}, "at"},
		{api.Item{Letters: "ta", Mask: api.Vowel}, "a"},
		{api.Item{Letters: "ta", Mask: api.Vowel, Negated: true, Repeated: true}, "ekt"},
	} {
		got := ""
		for _, l := range letters() {
			if Admits(c.x, l) {
				got += string(l.Rune)
			}
		}
		if got != c.want {
			t.Errorf("%+v admits %q", c.x, got)
		}
	}
}

func TestMachine(t *testing.T) { // P6.3, P8.1: the closed sets of the pattern of chapter 6, example 2, and their acceptor
	m := NewMachine(letters(), []api.Item{{Mask: api.Consonant, Repeated: true}, {Mask: api.Vowel}})
	sets, rows := Explore(m.Start(), 4, m.Next)
	if !slices.Equal(sets, []Set{1<<0 | 1<<1, 1 << 2, 0}) || !slices.EqualFunc(rows, [][]int{{1, 1, 0, 0}, {2, 2, 2, 2}, {2, 2, 2, 2}}, slices.Equal[[]int]) {
		t.Error(sets, rows)
	}
	if x := Build(sets, rows, m.Final); x.Start != 0 || !slices.Equal(x.Final, []bool{false, true, false}) || len(x.Next) != 3 {
		t.Error(x)
	}
}
