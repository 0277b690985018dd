package pattern

import (
	"math/rand"
	"slices"
	"strings"
	"testing"

	"pentaglot/api"
)

func TestAcceptor(t *testing.T) { // P6.3
	for _, c := range []struct {
		name string
		a    []api.Letter
		p    []api.Item
		want api.Acceptor
	}{
		{"the example", letters(), example(), api.Acceptor{Final: []bool{false, true, false}, Next: [][]int{{1, 1, 0, 0}, {2, 2, 2, 2}, {2, 2, 2, 2}}}},
		{"the empty pattern", letters(), nil, api.Acceptor{Final: []bool{true, false}, Next: [][]int{{1, 1, 1, 1}, {1, 1, 1, 1}}}},
		{"any letters", letters(), []api.Item{{Repeated: true}}, api.Acceptor{Final: []bool{true}, Next: [][]int{{0, 0, 0, 0}}}},
		{"any letters, in three items", letters(), []api.Item{{Repeated: true}, {Repeated: true}, {Repeated: true}}, api.Acceptor{Final: []bool{true}, Next: [][]int{{0, 0, 0, 0}}}},
		{"no letter", letters(), []api.Item{{Negated: true}}, api.Acceptor{Final: []bool{false, false}, Next: [][]int{{1, 1, 1, 1}, {1, 1, 1, 1}}}},
		{"no letters and the empty pattern", nil, nil, api.Acceptor{Final: []bool{true}, Next: [][]int{nil}}},
		{"no letters and an item", nil, []api.Item{{}}, api.Acceptor{Final: []bool{false}, Next: [][]int{nil}}},
		{"no letters and Repeated items", nil, []api.Item{{Repeated: true}, {Repeated: true}}, api.Acceptor{Final: []bool{true}, Next: [][]int{nil}}},
		{"a state that is reached by a later letter", letters(), []api.Item{{Letters: "t"}}, api.Acceptor{Final: []bool{false, false, true}, Next: [][]int{{1, 1, 1, 2}, {1, 1, 1, 1}, {1, 1, 1, 1}}}},
		{"states that are equivalent remain", letters()[:1], []api.Item{{}, {Repeated: true}, {Repeated: true}}, api.Acceptor{Final: []bool{false, true}, Next: [][]int{{1}, {1}}}},
		{"two sets with the same strings remain", letters()[:1], []api.Item{{Repeated: true}, {}, {Repeated: true}}, api.Acceptor{Final: []bool{false, true}, Next: [][]int{{1}, {1}}}},
		{"a set is not equal to a larger one with the same strings", letters()[2:], []api.Item{{Letters: "k", Repeated: true}, {Repeated: true}}, api.Acceptor{Final: []bool{true, true}, Next: [][]int{{0, 1}, {1, 1}}}},
	} {
		got, e := Acceptor(c.a, c.p)
		if e != api.OK || !equal(got, c.want) {
			t.Errorf("%s: %v, %d", c.name, got, e)
		}
	}
	for _, a := range improper() {
		if got, e := Acceptor(a, nil); e != api.ErrArgument || !equal(got, api.Acceptor{}) {
			t.Error(a, got, e)
		}
	}
	for _, p := range bad() {
		if got, e := Acceptor(letters(), p); e != api.ErrArgument || !equal(got, api.Acceptor{}) {
			t.Error(p, got, e)
		}
	}
	if got, e := Acceptor(many(65), example()); e != api.OK || len(got.Next[0]) != 65 {
		t.Error("65 letters", e)
	}
}

func TestAcceptorMemory(t *testing.T) { // P6.3, P6.5: rows of one result do not share memory
	x, _ := Acceptor(letters(), example())
	for _, y := range []api.Acceptor{x, Minimal(x)} {
		for i := range y.Next {
			before := same(y)
			y.Next[i][0], y.Final[i] = 99, !y.Final[i]
			before.Next[i][0], before.Final[i] = 99, !before.Final[i]
			if !equal(y, before) {
				t.Error(y)
			}
		}
	}
}

// broken returns acceptors over letters that are not valid.
func broken() []api.Acceptor {
	change := func(f func(x *api.Acceptor)) api.Acceptor {
		x, _ := Acceptor(letters(), example())
		f(&x)
		return x
	}
	long := make([][]int, 513)
	for i := range long {
		long[i] = make([]int, 4)
	}
	wide := make([]int, 66)
	return []api.Acceptor{
		{},
		{Final: []bool{true}},
		{Next: [][]int{{0, 0, 0, 0}}},
		{Final: make([]bool, 513), Next: long},
		{Final: []bool{true}, Next: [][]int{wide}},
		change(func(x *api.Acceptor) { x.Start = 3 }),
		change(func(x *api.Acceptor) { x.Start = -1 }),
		change(func(x *api.Acceptor) { x.Final = x.Final[:2] }),
		change(func(x *api.Acceptor) { x.Final = append(x.Final, true) }),
		change(func(x *api.Acceptor) { x.Next[1] = x.Next[1][:3] }),
		change(func(x *api.Acceptor) { x.Next[2] = append(x.Next[2], 0) }),
		change(func(x *api.Acceptor) { x.Next[0] = x.Next[0][:3] }),
		change(func(x *api.Acceptor) { x.Next[2] = nil }),
		change(func(x *api.Acceptor) { x.Next[2][3] = 3 }),
		change(func(x *api.Acceptor) { x.Next[0][0] = -1 }),
	}
}

func TestAccepts(t *testing.T) { // P6.4
	x, _ := Acceptor(letters(), example())
	later := api.Acceptor{Start: 1, Final: []bool{true, false}, Next: [][]int{{1, 1, 1, 1}, {0, 0, 1, 1}}}
	none := api.Acceptor{Final: []bool{true}, Next: [][]int{nil}}
	large := api.Acceptor{Start: 511, Final: make([]bool, 512)}
	for i := range 512 {
		large.Next = append(large.Next, slices.Repeat([]int{max(0, i-1)}, 4))
	}
	large.Final[0] = true
	for _, c := range []struct {
		name string
		a    []api.Letter
		x    api.Acceptor
		s    string
		want bool
	}{
		{"a match", letters(), x, "kka", true},
		{"no match", letters(), x, "kkaa", false},
		{"the empty string", letters(), x, "", false},
		{"another start", letters(), later, "kka", true},
		{"another start, at once", letters(), later, "", false},
		{"another start, and on", letters(), later, "aa", false},
		{"no letters", nil, none, "", true},
		{"no letters, and a string", nil, none, "a", false},
		{"512 states", letters(), large, strings.Repeat("a", 511), true},
		{"512 states, not all of them passed", letters(), large, strings.Repeat("a", 510), false},
		{"a string that is not over the letters", letters(), x, "kaz", false},
		{"a wrong byte", letters(), x, "a\xff", false},
		{"fewer letters than entries", letters()[:3], x, "ka", false},
		{"more letters than entries", append(letters(), api.Letter{Rune: 'o'}), x, "ka", false},
		{"no letters, but entries", nil, x, "", false},
	} {
		if got := Accepts(c.a, c.x, c.s); got != c.want {
			t.Errorf("%s: %v", c.name, got)
		}
	}
	for _, y := range broken() {
		for i := range y.Final {
			y.Final[i] = true
		}
		for _, s := range []string{"", "a", "kat"} {
			if Accepts(letters(), y, s) {
				t.Errorf("%v accepts %q", y, s)
			}
		}
	}
	for _, a := range improper() {
		row := make([]int, len(a))
		if Accepts(a, api.Acceptor{Final: []bool{true}, Next: [][]int{row}}, "") {
			t.Error(a)
		}
	}
}

func TestMinimal(t *testing.T) { // P6.5
	for _, c := range []struct {
		name    string
		x, want api.Acceptor
	}{
		{"states that are equal", api.Acceptor{Start: 2, Final: []bool{true, true, false, false}, Next: [][]int{{0, 1}, {1, 0}, {0, 1}, {3, 3}}}, api.Acceptor{Final: []bool{false, true}, Next: [][]int{{1, 1}, {1, 1}}}},
		{"a state that cannot be reached", api.Acceptor{Final: []bool{true, false}, Next: [][]int{{0}, {0}}}, api.Acceptor{Final: []bool{true}, Next: [][]int{{0}}}},
		{"nothing is accepted", api.Acceptor{Start: 1, Final: []bool{false, false, false}, Next: [][]int{{1}, {2}, {0}}}, api.Acceptor{Final: []bool{false}, Next: [][]int{{0}}}},
		{"everything is accepted", api.Acceptor{Start: 1, Final: []bool{true, true, true}, Next: [][]int{{1}, {2}, {0}}}, api.Acceptor{Final: []bool{true}, Next: [][]int{{0}}}},
		{"another numbering", api.Acceptor{Start: 2, Final: []bool{false, true, false}, Next: [][]int{{0, 0}, {0, 0}, {1, 0}}}, api.Acceptor{Final: []bool{false, true, false}, Next: [][]int{{1, 2}, {2, 2}, {2, 2}}}},
		{"no letters", api.Acceptor{Start: 1, Final: []bool{false, true}, Next: [][]int{nil, {}}}, api.Acceptor{Final: []bool{true}, Next: [][]int{nil}}},
		{"strings of even length", api.Acceptor{Final: []bool{true, false, true, false}, Next: [][]int{{1}, {2}, {3}, {0}}}, api.Acceptor{Final: []bool{true, false}, Next: [][]int{{1}, {0}}}},
	} {
		if got := Minimal(c.x); !equal(got, c.want) {
			t.Errorf("%s: %v", c.name, got)
		}
	}
	for _, x := range broken() {
		if got := Minimal(x); !equal(got, api.Acceptor{}) {
			t.Errorf("%v: %v", x, got)
		}
	}
}

func TestMinimalLarge(t *testing.T) { // P6.5: 512 states, of which all or few are needed
	large := func(last int) api.Acceptor {
		x := api.Acceptor{Final: make([]bool, 512)}
		for i := range 512 {
			x.Next = append(x.Next, slices.Repeat([]int{(i + 1) % 512}, 65))
		}
		x.Final[last] = true
		return x
	}
	x := large(511)
	if got := Minimal(x); !equal(got, x) {
		t.Error(len(got.Next))
	}
	x.Final[255] = true
	if got := Minimal(x); len(got.Next) != 256 || !got.Final[255] {
		t.Error(len(got.Next))
	}
}

func TestMinimalModel(t *testing.T) { // P6.5
	r := rand.New(rand.NewSource(2))
	a := letters()[:2]
	words := strs(a, 6)
	for range 2000 {
		x := randomAcceptor(r, 2)
		given := same(x)
		got := Minimal(x)
		if want := minimal(x); !equal(got, want) || !equal(x, given) {
			t.Fatalf("Minimal(%v) = %v, not %v", given, got, want)
		}
		for _, s := range words {
			if Accepts(a, got, s) != Accepts(a, x, s) {
				t.Fatalf("Minimal(%v) = %v, but %q", x, got, s)
			}
		}
		if !equal(Minimal(got), got) {
			t.Fatal(got)
		}
	}
}

func TestDifference(t *testing.T) { // P6.6
	turned := letters()
	slices.Reverse(turned)
	for _, c := range []struct {
		name string
		a    []api.Letter
		p, q []api.Item
		want string
		ok   bool
	}{
		{"the example", letters(), []api.Item{{Mask: api.Vowel}}, []api.Item{{Letters: "a"}}, "e", true},
		{"the second example", letters(), []api.Item{{Mask: api.Consonant}}, []api.Item{{Mask: api.Vowel, Negated: true}}, "", false},
		{"the empty string", letters(), []api.Item{{Repeated: true}}, []api.Item{{}}, "", true},
		{"the empty string, by the empty pattern", letters(), nil, []api.Item{{}}, "", true},
		{"equal patterns", letters(), example(), example(), "", false},
		{"empty patterns", letters(), nil, nil, "", false},
		{"no letters", nil, []api.Item{{}}, []api.Item{{}, {}}, "", false},
		{"no letters, and the empty string", nil, []api.Item{{Repeated: true}}, []api.Item{{}, {}}, "", true},
		{"Repeated items", letters(), []api.Item{{Repeated: true}}, []api.Item{{Repeated: true}, {Repeated: true}}, "", false},
		{"two letters", letters(), []api.Item{{}, {}}, []api.Item{{}, {Letters: "aek"}}, "at", true},
		{"three letters", letters(), []api.Item{{}, {}, {Letters: "t"}}, []api.Item{{Letters: "tke"}, {}, {Letters: "t"}}, "aat", true},
		{"the order of the letters", turned, []api.Item{{}, {}}, []api.Item{{}, {Letters: "kt"}}, "te", true},
		{"the shorter string first", letters(), []api.Item{{Repeated: true}, {Letters: "t"}}, []api.Item{{Letters: "ke", Repeated: true}, {Letters: "t"}}, "at", true},
		{"a letter is counted", letters(), []api.Item{{Letters: "a"}, {Letters: "a"}, {Letters: "a", Repeated: true}}, []api.Item{{Letters: "a"}, {Letters: "a"}, {Letters: "a"}}, "aa", true},
		{"runes of several bytes", []api.Letter{{Rune: '\U00010000'}, {Rune: 'é'}}, []api.Item{{}, {Letters: "é"}}, nil, "", true},
		{"a string of several bytes", []api.Letter{{Rune: '\U00010000'}, {Rune: 'é'}}, []api.Item{{}, {}}, []api.Item{{}, {Letters: "\U00010000"}}, "\U00010000é", true},
	} {
		if got, ok := Difference(c.a, c.p, c.q); got != c.want || ok != c.ok {
			t.Errorf("%s: %q, %v", c.name, got, ok)
		}
		if got, ok := Difference(c.a, c.q, c.p); got != c.want || ok != c.ok {
			t.Errorf("%s, exchanged: %q, %v", c.name, got, ok)
		}
	}
	for _, a := range improper() {
		if got, ok := Difference(a, nil, make([]api.Item, 1)); got != "" || ok {
			t.Error(a, got, ok)
		}
	}
	for _, p := range bad() {
		got, ok := Difference(letters(), p, nil)
		back, ok2 := Difference(letters(), nil, p)
		if got != "" || ok || back != "" || ok2 {
			t.Error(p, got, ok, back, ok2)
		}
	}
}

func TestDifferenceModel(t *testing.T) { // P6.6, P6.7
	r := rand.New(rand.NewSource(3))
	a := letters()
	words := strs(a, 4)
	least := func(p []api.Item) api.Acceptor {
		x, e := Acceptor(a, p)
		if e != api.OK {
			t.Fatal(p, e)
		}
		return Minimal(x)
	}
	equals := 0
	for range 2000 {
		p, q := randomPattern(r), randomPattern(r)
		i := slices.IndexFunc(words, func(s string) bool { return matches(p, spell(a, s)) != matches(q, spell(a, s)) })
		got, ok := Difference(a, p, q)
		switch {
		case i >= 0 && (got != words[i] || !ok):
			t.Fatalf("Difference(%v, %v) = %q, %v, not %q", p, q, got, ok, words[i])
		case i < 0 && ok && (len(got) < 5 || matches(p, spell(a, got)) == matches(q, spell(a, got))):
			t.Fatalf("Difference(%v, %v) = %q", p, q, got)
		case i < 0 && !ok:
			equals++
		}
		if equal(least(p), least(q)) == ok {
			t.Fatalf("%v, %v: %v, %v", p, q, least(p), least(q))
		}
	}
	if equals < 10 {
		t.Error("too few equal patterns", equals)
	}
}
