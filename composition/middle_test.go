package composition

import (
	"math/rand"
	"slices"
	"strings"
	"testing"

	"pentaglot/api"
	"pentaglot/transducer"
)

func TestMiddle(t *testing.T) { // P5.3
	a, b := arcs('a', 'b'), arcs('b', 'c')
	all := loops(0, 'a', 0, 'b')
	few := arcs('b', 0, 'a', 0, 'é', 0, '\U00010000', 0, '\uFFFD', 0)
	for _, c := range []struct {
		name string
		a, b api.Transducer
		x, z string
		n    int
		want []string
	}{
		{"the example", a, b, "a", "c", 3, []string{"b"}},
		{"the example with n = 1", a, b, "a", "c", 1, []string{"b"}},
		{"the example with n = 0", a, b, "a", "c", 0, nil},
		{"another output", a, b, "a", "b", 3, nil},
		{"the empty string", loops(), loops(), "", "", 0, []string{""}},
		{"the empty string among others", all, loops('a', 0), "", "", 2, []string{"", "a", "aa"}},
		{"all strings", all, loops('a', 0, 'b', 0), "", "", 2, []string{"", "a", "b", "aa", "ab", "ba", "bb"}},
		{"infinitely many outputs, of which one is read", all, row(4, 'b', 'c'), "", "ccc", 40, []string{"bbb"}},
		{"infinitely many inputs, of which one is written", row(4, 'a', 'b'), loops('b', 0, 'c', 0), "aaa", "", 40, []string{"bbb"}},
		{"more outputs than may be returned, of which one is read", fan(4096, 'a', 0), arcs(0x1234, 'c'), "a", "c", 40, []string{"\u1234"}},
		{"the order of code points", loops(0, 'é', 0, '\U00010000', 0, '\uFFFD', 0, 'b', 0, 'a'), few, "", "", 1, []string{"a", "b", "é", "\uFFFD", "\U00010000"}},
		{"shorter strings first", api.Transducer{States: 3, Finals: []int{2}, Arcs: []api.Arc{{From: 0, To: 2, Out: 'b'}, {From: 0, To: 1, Out: 'a'}, {From: 1, To: 2, Out: 'a'}}}, loops('a', 0, 'b', 0), "", "", 9, []string{"b", "aa"}},
		{"two ways to one string", api.Transducer{States: 3, Finals: []int{1, 2}, Arcs: []api.Arc{{From: 0, To: 1, Out: 'b'}, {From: 0, To: 2, Out: 'b'}}}, loops('b', 0), "", "", 9, []string{"b"}},
		{"epsilons between the runes", loops(0, 0, 0, 'b', 'a', 0), loops(0, 0, 0, 'c', 'b', 0), "a", "c", 2, []string{"", "b", "bb"}},
		{"a string of 40 runes", row(41, 'a', 'é'), loops('é', 0), as(40), "", 40, []string{strings.Repeat("é", 40)}},
		{"40 runes and n = 39", row(41, 'a', 'é'), loops('é', 0), as(40), "", 39, nil},
		{"a string of 41 runes", row(42, 0, 'b'), loops('b', 0), "", "", 40, nil},
		{"a long way without a rune", detour(), second(), "", "", 3, []string{"q"}},
		{"many silent states on the left", row(100, 0, 0), loops('y', 0), "", "", 2, []string{""}},
		{"many silent states on the right", loops(0, 'y'), row(100, 0, 0), "", "", 2, []string{""}},
		{"a rune after many silent states on the left", after(row(100, 0, 0), 0, 'y'), loops('y', 0), "", "", 2, []string{"y"}},
		{"a rune after many silent states on the right", loops(0, 'y'), after(row(100, 0, 0), 'y', 0), "", "", 2, []string{"y"}},
		{"beginnings that fit, and no ends", ring(3, 0, 0, 'b'), ring(3, 1, 'b', 0), "", "", 40, nil},
	} {
		if got, e := Middle(c.a, c.b, c.x, c.z, c.n); e != api.OK || !slices.Equal(got, c.want) {
			t.Errorf("%s: %q, %d", c.name, got, e)
		}
	}
}

func TestMiddleModel(t *testing.T) { // P5.3
	r := rand.New(rand.NewSource(5))
	words := strs(2)
	for range 2000 {
		a, b := random(r), random(r)
		a0, b0 := same(a), same(b)
		x, z, n := words[r.Intn(len(words))], words[r.Intn(len(words))], r.Intn(5)
		var want []string
		for _, y := range strs(n) {
			if transducer.Relates(a, x, y) && transducer.Relates(b, y, z) {
				want = append(want, y)
			}
		}
		if got, e := Middle(a, b, x, z, n); e != api.OK || !slices.Equal(got, want) {
			t.Fatalf("Middle(%v, %v, %q, %q, %d) = %q, %d, not %q", a, b, x, z, n, got, e, want)
		}
		if !equal(a, a0) || !equal(b, b0) {
			t.Fatalf("Middle(%v, %v) changed its arguments", a0, b0)
		}
	}
}

func TestMiddleLimits(t *testing.T) { // P5.3: n, and 256 and 257 results
	all, any := loops(0, 'a', 0, 'b'), loops('a', 0, 'b', 0)
	for _, c := range []struct {
		name string
		a, b api.Transducer
		x, z string
		n    int
		want int
		e    api.Errno
	}{
		{"n below 0", all, any, "", "", -1, 0, api.ErrArgument},
		{"n above MaxWord", all, any, "", "", 41, 0, api.ErrArgument},
		{"n above MaxWord and a word that is too long", all, any, as(41), "", 41, 0, api.ErrArgument},
		{"256 results", fan(256, 'a', 0), loops(fanRunes(256)...), "a", "", 1, 256, api.OK},
		{"257 results", fan(257, 'a', 0), loops(fanRunes(257)...), "a", "", 1, 0, api.ErrTooLarge},
		{"255 results", all, any, "", "", 7, 255, api.OK},
		{"511 results", all, any, "", "", 8, 0, api.ErrTooLarge},
		{"very many results", all, any, "", "", 40, 0, api.ErrTooLarge},
		{"many beginnings, but 256 results", spread(256, true), spread(256, false), "", "", 2, 256, api.OK},
		{"many beginnings, but 257 results", spread(257, true), spread(257, false), "", "", 2, 0, api.ErrTooLarge},
		{"257 results, of which 256 are short", longer(), loops(append(fanRunes(256), 'x', 0)...), "a", "", 1, 256, api.OK},
		{"257 results, one of them longer", longer(), loops(append(fanRunes(256), 'x', 0)...), "a", "", 2, 0, api.ErrTooLarge},
	} {
		got, e := Middle(c.a, c.b, c.x, c.z, c.n)
		if e != c.e || len(got) != c.want || !slices.IsSortedFunc(got, func(s, t string) int { return len([]rune(s)) - len([]rune(t)) }) {
			t.Errorf("%s: %d, %d", c.name, len(got), e)
		}
	}
}

// fanRunes returns the labels of loops that read the n runes of fan.
func fanRunes(n int) []rune {
	var out []rune
	for i := range n {
		out = append(out, rune(0x1000+i), 0)
	}
	return out
}

// spread writes or reads one of 2000 runes, and then an x. The one that reads does so only after the first n runes.
func spread(n int, write bool) api.Transducer {
	t := api.Transducer{States: 3, Finals: []int{2}}
	for i := range 2000 {
		to := 1
		if i >= n && !write {
			to = 0
		}
		t.Arcs = append(t.Arcs, api.Arc{From: 0, To: to, In: rune(0x1000 + i)})
	}
	t.Arcs = append(t.Arcs, api.Arc{From: 1, To: 2, In: 'x'})
	for i := range t.Arcs {
		if write {
			t.Arcs[i].In, t.Arcs[i].Out = 0, t.Arcs[i].In
		}
	}
	return t
}

// after returns t with one more arc at its end.
func after(t api.Transducer, in, out rune) api.Transducer {
	t.Arcs = append(t.Arcs, api.Arc{From: t.States - 1, To: t.States, In: in, Out: out})
	t.Finals = []int{t.States}
	t.States++
	return t
}

// longer writes each of 256 runes, and one string of two runes.
func longer() api.Transducer {
	t := fan(256, 'a', 0)
	t.Arcs = append(t.Arcs, api.Arc{From: 0, To: 2, In: 'a', Out: 'x'}, api.Arc{From: 2, To: 1, Out: 'x'})
	t.States = 3
	return t
}
