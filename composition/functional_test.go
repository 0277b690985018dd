package composition

import (
	"math/rand"
	"slices"
	"testing"

	"pentaglot/api"
	"pentaglot/transducer"
)

func TestFunctional(t *testing.T) { // P5.6
	loop := arcs('a', 'b')
	loop.Arcs = append(loop.Arcs, api.Arc{From: 1, To: 1, Out: 'b'})
	// Both ways write the same string, one of them later.
	twice := api.Transducer{States: 4, Finals: []int{3}, Arcs: []api.Arc{{From: 0, To: 1, In: 'a', Out: 'x'}, {From: 0, To: 2, In: 'a'}, {From: 1, To: 3, In: 'b', Out: 'y'}, {From: 2, To: 2, Out: 0}, {From: 2, To: 3, In: 'b', Out: 'y'}}}
	split := api.Transducer{States: 4, Finals: []int{3}, Arcs: []api.Arc{{From: 0, To: 1, In: 'a', Out: 'x'}, {From: 0, To: 2, In: 'a'}, {From: 1, To: 3, In: 'b'}, {From: 2, To: 3, In: 'b', Out: 'x'}}}
	// A very long output, and a second one that is longer.
	long := row(512, 0, 'y')
	longer := row(512, 0, 'y')
	longer.Arcs = append(longer.Arcs, api.Arc{From: 510, To: 510, Out: 'y'})
	ends := row(512, 0, 'y')
	ends.Finals = []int{510, 511}
	dead := arcs('a', 'b', 'a', 'b')
	dead.States = 3
	dead.Arcs = append(dead.Arcs, api.Arc{From: 0, To: 2, In: 'a', Out: 'c'}, api.Arc{From: 2, To: 2, Out: 'c'})
	for _, c := range []struct {
		name  string
		a     api.Transducer
		words []string
		want  bool
	}{
		{"no words", arcs('a', 'b', 'a', 'd'), nil, true},
		{"one output each", arcs('a', 'b', 'c', 'd'), []string{"a", "c", "x"}, true},
		{"the example", arcs('a', 'b', 'a', 'd'), []string{"a"}, false},
		{"other words of the example", arcs('a', 'b', 'a', 'd'), []string{"", "b", "aa"}, true},
		{"the last word", arcs('a', 'b', 'c', 'd', 'c', 'e'), []string{"a", "", "c"}, false},
		{"no output", api.Transducer{States: 1}, []string{"", "a"}, true},
		{"an output and the empty one", arcs('a', 'b', 'a', 0), []string{"a"}, false},
		{"infinitely many outputs", loop, []string{"a"}, false},
		{"infinitely many ways to write one string", loops(0, 0, 'a', 'b'), []string{as(40)}, true},
		{"outputs of one word, beyond any limit", loops('a', 'b', 'a', 'c'), []string{as(40)}, false},
		{"the same string at different times", split, []string{"ab"}, true},
		{"strings of different lengths", twice, []string{"ab"}, false},
		{"511 runes", long, []string{""}, true},
		{"511 runes or more", longer, []string{""}, false},
		{"510 or 511 runes", ends, []string{""}, false},
		{"ways that do not end, and double arcs", dead, []string{"a"}, true},
		{"a word of 40 runes", loops('é', 'b'), []string{string(slices.Repeat([]rune{'é'}, 40))}, true},
	} {
		if got, e := Functional(c.a, c.words...); e != api.OK || got != c.want {
			t.Errorf("%s: %v, %d", c.name, got, e)
		}
	}
}

func TestFunctionalModel(t *testing.T) { // P5.6
	r := rand.New(rand.NewSource(6))
	words := strs(3)
	for range 3000 {
		a := random(r)
		a0 := same(a)
		var list []string
		want := true
		for range r.Intn(3) {
			w := words[r.Intn(len(words))]
			list = append(list, w)
			// There are at most 16 states with a position in w, so that a second output is found within this length.
			out, e := transducer.Outputs(a, w, 50)
			want = want && e == api.OK && len(out) < 2
		}
		if got, e := Functional(a, list...); e != api.OK || got != want || !equal(a, a0) {
			t.Fatalf("Functional(%v, %q) = %v, %d", a0, list, got, e)
		}
	}
}

func TestFunctionalErrors(t *testing.T) { // P5.6, P1
	two := arcs('a', 'b', 'a', 'd')
	for _, bad := range invalid() {
		for _, list := range [][]string{nil, {"a"}, {as(41)}} {
			if got, e := Functional(bad, list...); e != api.ErrArgument || got {
				t.Errorf("Functional(%v, %q) = %v, %d", bad, list, got, e)
			}
		}
	}
	for _, bad := range unreadable() {
		for _, list := range [][]string{{bad}, {"a", bad}, {bad, "a"}, {as(41), bad}} {
			if got, e := Functional(two, list...); e != api.ErrArgument || got {
				t.Errorf("Functional with %q: %v, %d", list, got, e)
			}
		}
	}
	for _, list := range [][]string{{as(41)}, {"a", as(41)}, {as(41), "c"}} {
		if got, e := Functional(two, list...); e != api.ErrTooLarge || got {
			t.Errorf("Functional with %q: %v, %d", list, got, e)
		}
	}
}
