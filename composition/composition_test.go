package composition

import (
	"math/rand"
	"slices"
	"strings"
	"testing"

	"pentaglot/algebra"
	"pentaglot/api"
	"pentaglot/raw"
	"pentaglot/transducer"
)

func TestCompose(t *testing.T) { // P5.1
	for _, c := range []struct {
		name string
		a, b api.Transducer
		want api.Transducer
	}{
		{"the example", arcs('a', 'b'), arcs('b', 'c'), arcs('a', 'c')},
		{"the example, exchanged", arcs('b', 'c'), arcs('a', 'b'), api.Transducer{States: 1}},
		{"the example with a second arc", arcs('a', 'b', 'a', 'd'), arcs('b', 'c'), arcs('a', 'c')},
		{"nothing on the left", api.Transducer{States: 3, Start: 1}, loops('b', 'c'), api.Transducer{States: 1}},
		{"nothing on the right", loops('b', 'c'), api.Transducer{States: 3, Start: 1}, api.Transducer{States: 1}},
		{"both empty strings", loops(), loops(), api.Transducer{States: 1, Finals: []int{0}}},
		{"the same pair of runes by two middle runes", arcs('a', 'b', 'a', 'd'), arcs('b', 'c', 'd', 'c'), arcs('a', 'c')},
		{"two middle runes", arcs('a', 'b', 'a', 'd'), arcs('b', 'x', 'd', 'c'), arcs('a', 'c', 'a', 'x')},
		{"an arc that writes nothing", arcs('a', 0), loops('a', 'b'), arcs('a', 0)},
		{"an arc that reads nothing", loops('a', 'b'), arcs(0, 'c'), arcs(0, 'c')},
		{"epsilons on both sides are passed one after the other", arcs('a', 0), arcs(0, 'c'), api.Transducer{States: 4, Finals: []int{3}, Arcs: []api.Arc{{From: 0, To: 1, Out: 'c'}, {From: 0, To: 2, In: 'a'}, {From: 1, To: 3, In: 'a'}, {From: 2, To: 3, Out: 'c'}}}},
		{"epsilon loops on both sides are one", loops(0, 0), loops(0, 0), api.Transducer{States: 1, Finals: []int{0}, Arcs: make([]api.Arc, 1)}},
		{"an epsilon loop on the left", loops(0, 0, 'a', 'b'), loops('b', 'c'), api.Transducer{States: 1, Finals: []int{0}, Arcs: []api.Arc{{}, {In: 'a', Out: 'c'}}}},
		{"a cycle that writes for a cycle that reads", loops(0, 'y', 'a', 'b'), loops('y', 0, 'b', 'c'), api.Transducer{States: 1, Finals: []int{0}, Arcs: []api.Arc{{}, {In: 'a', Out: 'c'}}}},
		{"numbers by the left state, then the right one", api.Transducer{States: 2, Start: 1, Finals: []int{0}, Arcs: []api.Arc{{From: 1, To: 0, In: 'a', Out: 'b'}}}, arcs('b', 'c'), api.Transducer{States: 2, Start: 1, Finals: []int{0}, Arcs: []api.Arc{{From: 1, To: 0, In: 'a', Out: 'c'}}}},
		{"starts and ends apart", api.Transducer{States: 3, Start: 2, Finals: []int{0, 1}, Arcs: []api.Arc{{From: 2, To: 0, In: 'a', Out: 'b'}, {From: 2, To: 1, In: 'b', Out: 'b'}}}, api.Transducer{States: 3, Start: 1, Finals: []int{0, 2}, Arcs: []api.Arc{{From: 1, To: 0, In: 'b', Out: 'c'}}}, api.Transducer{States: 3, Start: 2, Finals: []int{0, 1}, Arcs: []api.Arc{{From: 2, To: 0, In: 'a', Out: 'c'}, {From: 2, To: 1, In: 'b', Out: 'c'}}}},
	} {
		if got, e := Compose(c.a, c.b); e != api.OK || !equal(got, c.want) {
			t.Errorf("%s: %v, %d, not %v", c.name, got, e, c.want)
		}
	}
}

func TestComposeModel(t *testing.T) { // P5.1, P5.2
	r := rand.New(rand.NewSource(1))
	words := strs(2)
	for range 3000 {
		a, b := random(r), random(r)
		a0, b0 := same(a), same(b)
		got, e := Compose(a, b)
		want, we := raw.Result(rawComposition(a, b))
		if e != we || !equal(got, want) {
			t.Fatalf("Compose(%v, %v) = %v, %d, not %v", a, b, got, e, want)
		}
		x, z := words[r.Intn(len(words))], words[r.Intn(len(words))]
		related := through(a, b, x, z)
		if transducer.Relates(got, x, z) != related {
			t.Fatalf("Compose(%v, %v) relates %q to %q otherwise", a, b, x, z)
		}
		if ok, e := Through(a, b, x, z); e != api.OK || ok != related {
			t.Fatalf("Through(%v, %v, %q, %q) = %v, %d", a, b, x, z, ok, e)
		}
		if !equal(a, a0) || !equal(b, b0) {
			t.Fatalf("Compose(%v, %v) changed its arguments", a0, b0)
		}
	}
}

func TestComposeLimits(t *testing.T) { // P5.1: the limits are those of the trimmed composition
	dead := func(n int, in, out rune) api.Transducer {
		x := row(n, in, out)
		x.Finals = []int{1}
		return x
	}
	quiet := func(n int) api.Transducer { return loops(fanRunes(n)...) }
	for _, c := range []struct {
		name         string
		a, b         api.Transducer
		want         api.Errno
		states, arcs int
	}{
		{"512 states in a row", row(512, 'a', 'b'), row(512, 'b', 'c'), api.OK, 512, 511},
		{"32 times 16 states", row(32, 'a', 0), row(16, 0, 'b'), api.OK, 512, 976},
		{"27 times 19 states", row(27, 'a', 0), row(19, 0, 'b'), api.ErrTooLarge, 0, 0},
		{"512 times 512 states", row(512, 'a', 0), row(512, 0, 'b'), api.ErrTooLarge, 0, 0},
		{"512 times 512 states, of which four remain", dead(512, 'a', 0), dead(512, 0, 'b'), api.OK, 4, 4},
		{"130560 states that are reached, but never end together", ring(510, 1, 'a', 'b'), ring(512, 0, 'b', 'c'), api.OK, 1, 0},
		{"64 times 64 arcs", fan(64, 0, 'b'), fan(64, 'b', 0), api.OK, 2, 4096},
		{"17 times 241 arcs", fan(17, 0, 'b'), fan(241, 'b', 0), api.ErrTooLarge, 0, 0},
		{"4096 times 4096 arcs", fan(4096, 0, 'b'), fan(4096, 'b', 0), api.ErrTooLarge, 0, 0},
		{"4096 arcs that write nothing, and none that reads nothing", quiet(4096), loops('a', 'b'), api.OK, 1, 4096},
		{"4096 arcs that write nothing, and one that reads nothing", quiet(4096), loops(0, 'b'), api.ErrTooLarge, 0, 0},
		{"4095 arcs that write nothing, in each of two states", quiet(4095), arcs(0, 'b'), api.ErrTooLarge, 0, 0},
		{"4096 middle runes for one arc", fan(4096, 'a', 0), fan(4096, 0, 'c'), api.OK, 2, 1},
		{"4096 times 4096 equal arcs", api.Transducer{States: 1, Finals: []int{0}, Arcs: make([]api.Arc, 4096)}, api.Transducer{States: 1, Finals: []int{0}, Arcs: make([]api.Arc, 4096)}, api.OK, 1, 1},
	} {
		got, e := Compose(c.a, c.b)
		if e != c.want || got.States != c.states || len(got.Arcs) != c.arcs || e != api.OK && !equal(got, api.Transducer{}) {
			t.Errorf("%s: %d states, %d arcs, %d", c.name, got.States, len(got.Arcs), e)
		}
	}
}

func TestThrough(t *testing.T) { // P5.2
	a, b := arcs('a', 'b'), arcs('b', 'c')
	// The middle has a multiple of 511 runes, and one more than a multiple of 512: at least 261121.
	many, mod := ring(512, 1, 0, 'y'), ring(512, 1, 'y', 0)
	many.Arcs[0], many.Arcs[511] = api.Arc{From: 0, To: 1, In: 'a'}, api.Arc{From: 511, To: 1, Out: 'y'}
	never := ring(511, 3, 'y', 0)
	cycle := loops(0, 0, 0, 'y', 'a', 'b')
	for _, c := range []struct {
		name string
		a, b api.Transducer
		x, z string
		want bool
	}{
		{"the example", a, b, "a", "c", true},
		{"the example with b", a, b, "a", "b", false},
		{"a middle string is no output", a, b, "a", "", false},
		{"empty strings", a, b, "", "", false},
		{"empty strings, related", loops('a', 'b'), loops('b', 'c'), "", "", true},
		{"a longer middle", row(4, 0, 'y'), row(4, 'y', 0), "", "", true},
		{"middles of different lengths", row(4, 0, 'y'), row(5, 'y', 0), "", "", false},
		{"a very long middle", many, mod, "a", "", true},
		{"a very long middle and a wrong input", many, mod, "aa", "", false},
		{"a very long middle that never fits", many, never, "a", "", false},
		{"cycles of epsilons on the left", cycle, loops('y', 0, 'b', 'c'), "aa", "cc", true},
		{"cycles of epsilons on the right", loops('a', 'b'), loops(0, 0, 0, 'c', 'b', 'd'), "aa", "ccdcdc", true},
		{"cycles of epsilons on both sides", cycle, loops(0, 0, 'y', 0, 'b', 'c'), "aa", "c", false},
		{"epsilons that write in vain", cycle, loops('b', 'c'), "aa", "cc", true},
		{"40 runes", loops('a', 'é'), loops('é', 'ö'), as(40), strings.Repeat("ö", 40), true},
		{"40 and 39 runes", loops('a', 'é'), loops('é', 'ö'), as(40), strings.Repeat("ö", 39), false},
		{"a long way without a rune", detour(), second(), "", "", true},
		{"many silent states on the left", row(100, 0, 0), loops('y', 0), "", "", true},
		{"many silent states on the right", loops(0, 'y'), row(100, 0, 0), "", "", true},
		{"many states on the left", row(100, 0, 'y'), loops('y', 0), "", "", true},
		{"many states on the right", loops(0, 'y'), row(100, 'y', 0), "", "", true},
		{"the right one is empty", a, api.Transducer{States: 1}, "a", "c", false},
		{"the left one is empty", api.Transducer{States: 1}, b, "a", "c", false},
	} {
		if got, e := Through(c.a, c.b, c.x, c.z); e != api.OK || got != c.want {
			t.Errorf("%s: %v, %d", c.name, got, e)
		}
	}
}

func TestChain(t *testing.T) { // P5.4
	a, b, c := arcs('a', 'b', 'a', 'd'), arcs('b', 'c'), arcs('c', 'd')
	untidy := api.Transducer{States: 3, Start: 1, Finals: []int{2}, Arcs: []api.Arc{{From: 1, To: 2, In: 'b'}, {From: 1, To: 2, In: 'a'}, {From: 1, To: 2, In: 'a'}, {From: 0, To: 2, In: 'c'}}}
	for _, c := range []struct {
		name string
		list []api.Transducer
		want api.Transducer
		e    api.Errno
	}{
		{"none", nil, api.Transducer{}, api.ErrArgument},
		{"one", []api.Transducer{untidy}, arcs('a', 0, 'b', 0), api.OK},
		{"one that relates nothing", []api.Transducer{{States: 9, Start: 3}}, api.Transducer{States: 1}, api.OK},
		{"two", []api.Transducer{a, b}, arcs('a', 'c'), api.OK},
		{"three", []api.Transducer{a, b, c}, arcs('a', 'd'), api.OK},
		{"three in another order", []api.Transducer{b, a, c}, api.Transducer{States: 1}, api.OK},
		{"too large", []api.Transducer{row(27, 'a', 0), row(19, 0, 'b')}, api.Transducer{}, api.ErrTooLarge},
		{"too large in between", []api.Transducer{row(27, 'a', 0), row(19, 0, 'b'), {States: 1}}, api.Transducer{}, api.ErrTooLarge},
		{"too large only with the later ones", []api.Transducer{{States: 1}, row(27, 'a', 0), row(19, 0, 'b')}, api.Transducer{States: 1}, api.OK},
		{"too large, and then not valid", []api.Transducer{row(27, 'a', 0), row(19, 0, 'b'), {}}, api.Transducer{}, api.ErrArgument},
	} {
		if got, e := Chain(c.list...); e != c.e || !equal(got, c.want) {
			t.Errorf("%s: %v, %d", c.name, got, e)
		}
	}
	for _, bad := range invalid() {
		for _, list := range [][]api.Transducer{{bad}, {bad, a, b}, {a, bad, b}, {a, b, bad}} {
			if got, e := Chain(list...); e != api.ErrArgument || !equal(got, api.Transducer{}) {
				t.Errorf("Chain(%v) = %v, %d", list, got, e)
			}
		}
	}
}

func TestChainModel(t *testing.T) { // P5.4, P5.7: also associativity
	r := rand.New(rand.NewSource(2))
	for range 400 {
		a, b, c := random(r), random(r), random(r)
		got, e := Chain(a, b, c)
		ab, _ := Compose(a, b)
		left, le := Compose(ab, c)
		if e != le || !equal(got, left) {
			t.Fatalf("Chain(%v, %v, %v) = %v, %d", a, b, c, got, e)
		}
		bc, _ := Compose(b, c)
		if right, re := Compose(a, bc); re != api.OK || !sameRelation(left, right, 2) {
			t.Fatalf("%v, %v, %v: %v, but %v, %d", a, b, c, left, right, re)
		}
	}
}

func TestInverse(t *testing.T) { // P5.7
	r := rand.New(rand.NewSource(3))
	inverse := func(x api.Transducer) api.Transducer {
		y, e := algebra.Invert(x)
		if e != api.OK {
			t.Fatal(x, e)
		}
		return y
	}
	for range 400 {
		a, b := random(r), random(r)
		ab, _ := Compose(a, b)
		ba, e := Compose(inverse(b), inverse(a))
		if e != api.OK || !sameRelation(inverse(ab), ba, 2) {
			t.Fatalf("%v, %v: %v, %v, %d", a, b, ab, ba, e)
		}
	}
}

func TestRestrict(t *testing.T) { // P5.5
	a := arcs('a', 'b', 'c', 'd', 'c', 'e', 'é', 0)
	bad := api.Transducer{States: 2, Start: 2}
	wide := row(27, 0, 'b')
	for s := range 27 {
		wide.Arcs = append(wide.Arcs, api.Arc{From: s, To: s, In: 'a'})
	}
	for _, c := range []struct {
		name  string
		a     api.Transducer
		words []string
		want  api.Transducer
		e     api.Errno
	}{
		{"one word", a, []string{"c", "e"}, arcs('c', 'd', 'c', 'e'), api.OK},
		{"the same word twice", a, []string{"c", "c"}, arcs('c', 'd', 'c', 'e'), api.OK},
		{"no words", a, nil, api.Transducer{States: 1}, api.OK},
		{"other words", a, []string{"", "aa"}, api.Transducer{States: 1}, api.OK},
		{"two words", a, []string{"é", "a"}, api.Transducer{States: 3, Finals: []int{1, 2}, Arcs: []api.Arc{{From: 0, To: 1, In: 'é'}, {From: 0, To: 2, In: 'a', Out: 'b'}}}, api.OK},
		{"a long word", loops('a', 'a'), []string{as(511)}, row(512, 'a', 'a'), api.OK},
		{"a word that is too long", loops('a', 'a'), []string{as(512)}, api.Transducer{}, api.ErrTooLarge},
		{"a word that is too long, of which nothing would remain", a, []string{as(512)}, api.Transducer{}, api.ErrTooLarge},
		{"a result of 27 times 19 states", wide, []string{as(18)}, api.Transducer{}, api.ErrTooLarge},
		{"a wrong word", a, []string{"c", "\xff"}, api.Transducer{}, api.ErrArgument},
		{"a word with the rune 0", a, []string{"c\x00"}, api.Transducer{}, api.ErrArgument},
		{"a wrong word after one that is too long", a, []string{as(512), "\xff"}, api.Transducer{}, api.ErrArgument},
		{"not valid", bad, []string{"c"}, api.Transducer{}, api.ErrArgument},
		{"not valid, without words", bad, nil, api.Transducer{}, api.ErrArgument},
		{"not valid, with a word that is too long", bad, []string{as(512)}, api.Transducer{}, api.ErrArgument},
	} {
		if got, e := Restrict(c.a, c.words...); e != c.e || !equal(got, c.want) {
			t.Errorf("%s: %v, %d", c.name, got, e)
		}
	}
}

func TestRestrictModel(t *testing.T) { // P5.5, P5.7
	r := rand.New(rand.NewSource(4))
	words := strs(3)
	for range 400 {
		a := random(r)
		var list []string
		for range r.Intn(4) {
			list = append(list, words[r.Intn(len(words))])
		}
		given := slices.Clone(list)
		got, e := Restrict(a, list...)
		inputs, _ := algebra.Words(list...)
		want, we := Compose(inputs, a)
		if e != we || e != api.OK || !equal(got, want) || !slices.Equal(list, given) {
			t.Fatalf("Restrict(%v, %q) = %v, %d, not %v", a, list, got, e, want)
		}
		for _, x := range words {
			for _, y := range words {
				if transducer.Relates(got, x, y) != (slices.Contains(list, x) && transducer.Relates(a, x, y)) {
					t.Fatalf("Restrict(%v, %q) relates %q to %q otherwise", a, list, x, y)
				}
			}
		}
	}
}

func TestInvalid(t *testing.T) { // P1: the errors of the functions that take two transducers or strings
	good := loops('a', 'a')
	for _, bad := range invalid() {
		for _, c := range [][2]api.Transducer{{bad, good}, {good, bad}, {bad, bad}} {
			if got, e := Compose(c[0], c[1]); e != api.ErrArgument || !equal(got, api.Transducer{}) {
				t.Errorf("Compose(%v): %v, %d", c, got, e)
			}
			for _, x := range []string{"a", as(41)} {
				if got, e := Through(c[0], c[1], x, "a"); e != api.ErrArgument || got {
					t.Errorf("Through(%v): %v, %d", c, got, e)
				}
				if got, e := Middle(c[0], c[1], x, "a", 3); e != api.ErrArgument || len(got) != 0 {
					t.Errorf("Middle(%v): %v, %d", c, got, e)
				}
			}
		}
	}
	for _, bad := range unreadable() {
		for _, c := range [][2]string{{bad, "a"}, {"a", bad}, {bad, as(41)}, {as(41), bad}} {
			if got, e := Through(good, good, c[0], c[1]); e != api.ErrArgument || got {
				t.Errorf("Through with %q: %v, %d", c, got, e)
			}
			if got, e := Middle(good, good, c[0], c[1], 3); e != api.ErrArgument || len(got) != 0 {
				t.Errorf("Middle with %q: %v, %d", c, got, e)
			}
		}
	}
	for _, c := range [][2]string{{as(41), ""}, {"", as(41)}, {strings.Repeat("é", 41), "a"}, {as(100000), as(100000)}} {
		if got, e := Through(good, good, c[0], c[1]); e != api.ErrTooLarge || got {
			t.Errorf("Through: %v, %d", got, e)
		}
		if got, e := Middle(good, good, c[0], c[1], 3); e != api.ErrTooLarge || len(got) != 0 {
			t.Errorf("Middle: %v, %d", got, e)
		}
	}
}

func TestOwnMemory(t *testing.T) { // P5.1, P5.4, P5.5: results share no memory with arguments
	for name, f := range map[string]func(x api.Transducer) (api.Transducer, api.Errno){
		"Compose, left":  func(x api.Transducer) (api.Transducer, api.Errno) { return Compose(x, loops('b', 'b')) },
		"Compose, right": func(x api.Transducer) (api.Transducer, api.Errno) { return Compose(loops('a', 'a'), x) },
		"Chain":          func(x api.Transducer) (api.Transducer, api.Errno) { return Chain(x) },
		"Restrict":       func(x api.Transducer) (api.Transducer, api.Errno) { return Restrict(x, "a") },
	} {
		x := arcs('a', 'b')
		got, e := f(x)
		if e != api.OK || !equal(got, arcs('a', 'b')) {
			t.Fatal(name, got, e)
		}
		x.Arcs[0].In, x.Finals[0] = 'x', 0
		if !equal(got, arcs('a', 'b')) {
			t.Error(name, got)
		}
	}
}
