package transducer

import (
	"math/rand"
	"strings"
	"testing"

	"pentaglot/api"
)

// shortest is the definition of Shortest, where the sum of the lengths is at most n.
func shortest(t api.Transducer, n int) (string, string, bool) {
	for sum := range n + 1 {
		for _, x := range strs(sum) {
			for _, y := range strs(sum) {
				if len(x)+len(y) == sum && relates(t, x, y) {
					return x, y, true
				}
			}
		}
	}
	return "", "", false
}

func TestShortest(t *testing.T) { // P3.4
	// arcs 0 to 1 with these labels, in and out by turns
	fork := func(labels string) api.Transducer {
		t := api.Transducer{States: 2, Finals: []int{1}}
		for i := 0; i < len(labels); i += 2 {
			a := api.Arc{From: 0, To: 1, In: rune(labels[i]), Out: rune(labels[i+1])}
			if a.In == '-' {
				a.In = 0
			}
			if a.Out == '-' {
				a.Out = 0
			}
			t.Arcs = append(t.Arcs, a)
		}
		return t
	}
	// "b" to "ax" and "a" to "bx": the arcs that write come first.
	crossed := api.Transducer{States: 6, Finals: []int{5}, Arcs: []api.Arc{{From: 0, To: 1, Out: 'a'}, {From: 1, To: 2, Out: 'x'}, {From: 2, To: 5, In: 'b'}, {From: 0, To: 3, Out: 'b'}, {From: 3, To: 4, Out: 'x'}, {From: 4, To: 5, In: 'a'}}}
	cycle := api.Transducer{States: 3, Start: 2, Finals: []int{0}, Arcs: []api.Arc{{From: 2, To: 1}, {From: 1, To: 2}, {From: 1, To: 0, In: 'é', Out: '\U00010000'}, {From: 1, To: 0, In: 'é', Out: '\uFFFD'}, {From: 0, To: 0}}}
	for _, c := range []struct {
		name string
		t    api.Transducer
		x, y string
		ok   bool
	}{
		{"the example", example(), "a", "b", true},
		{"empty", api.Transducer{States: 2, Finals: []int{1}}, "", "", false},
		{"the empty pair", loops(api.Arc{In: 'a'}), "", "", true},
		{"the least sum", fork("aab-"), "b", "", true},
		{"the shorter input", fork("a--b"), "", "b", true},
		{"the first input", fork("bacb"), "b", "a", true},
		{"the first output", fork("azab"), "a", "b", true},
		{"the input before the output", fork("abba"), "a", "b", true},
		{"outputs before inputs", crossed, "a", "bx", true},
		{"runes by code point, cycles of epsilons", cycle, "é", "\uFFFD", true},
		{"512 states", chain(512), strings.Repeat("a", 511), strings.Repeat("b", 511), true},
	} {
		if x, y, ok := Shortest(c.t); x != c.x || y != c.y || ok != c.ok {
			t.Errorf("%s: %q, %q, %v", c.name, x, y, ok)
		}
	}
}

func TestShortestModel(t *testing.T) { // P3.4
	r := rand.New(rand.NewSource(5))
	for range 1500 {
		x := random(r)
		in, out, ok := Shortest(x)
		if !ok {
			if !Empty(x) || in != "" || out != "" {
				t.Fatal(x)
			}
			continue
		}
		// A shortest path has at most three arcs, each of which adds at most two runes.
		if wantIn, wantOut, want := shortest(x, 6); in != wantIn || out != wantOut || ok != want {
			t.Fatalf("Shortest(%v) = %q, %q, not %q, %q", x, in, out, wantIn, wantOut)
		}
	}
}

func TestShortestLarge(t *testing.T) { // P3.4, P1: many ways, none of which is followed twice
	x := api.Transducer{States: 512, Finals: []int{511}}
	for s := range 511 {
		for _, a := range []api.Arc{{In: 'b', Out: 'a'}, {In: 'a', Out: 'b'}, {In: 'b'}, {Out: 'a'}, {In: 'a'}, {Out: 'b'}, {In: 'a', Out: 'a'}, {Out: 'c'}} {
			a.From, a.To = s, s+1
			x.Arcs = append(x.Arcs, a)
		}
	}
	if in, out, ok := Shortest(x); in != "" || out != strings.Repeat("a", 511) || !ok {
		t.Error(len(in), len(out), ok)
	}
	long := chain(512)
	for i := range long.Arcs {
		long.Arcs = append(long.Arcs, api.Arc{From: i, To: i + 1, In: 'a', Out: 'a'}, api.Arc{From: i, To: i + 1, In: 'b', Out: 'a'})
	}
	if in, out, ok := Shortest(long); in != strings.Repeat("a", 511) || out != in || !ok {
		t.Error(len(in), len(out), ok)
	}
}
