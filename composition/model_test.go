package composition

import (
	"math/rand"
	"slices"
	"strings"

	"pentaglot/api"
	"pentaglot/transducer"
)

// rawComposition is the definition of the raw composition.
func rawComposition(a, b api.Transducer) api.Transducer {
	at := func(p, q int) int { return p*b.States + q }
	t := api.Transducer{States: a.States * b.States, Start: at(a.Start, b.Start)}
	for _, p := range a.Finals {
		for _, q := range b.Finals {
			t.Finals = append(t.Finals, at(p, q))
		}
	}
	for _, x := range a.Arcs {
		for _, y := range b.Arcs {
			if x.Out != 0 && x.Out == y.In {
				t.Arcs = append(t.Arcs, api.Arc{From: at(x.From, y.From), To: at(x.To, y.To), In: x.In, Out: y.Out})
			}
		}
		for q := range b.States {
			if x.Out == 0 {
				t.Arcs = append(t.Arcs, api.Arc{From: at(x.From, q), To: at(x.To, q), In: x.In})
			}
		}
	}
	for _, y := range b.Arcs {
		for p := range a.States {
			if y.In == 0 {
				t.Arcs = append(t.Arcs, api.Arc{From: at(p, y.From), To: at(p, y.To), Out: y.Out})
			}
		}
	}
	return t
}

// through is the definition of the composition as a relation: which states of both are reached after i runes of x and j runes of z, with any string in the middle.
func through(a, b api.Transducer, x, z string) bool {
	in, out := []rune(x), []rune(z)
	type place struct{ p, q, i, j int }
	reached := map[place]bool{{a.Start, b.Start, 0, 0}: true}
	var grown bool
	add := func(s place) {
		if s.i <= len(in) && s.j <= len(out) && !reached[s] {
			reached[s] = true
			grown = true
		}
	}
	reads := func(r rune, word []rune, i int) (int, bool) {
		if r == 0 {
			return i, true
		}
		return i + 1, i < len(word) && word[i] == r
	}
	for grown = true; grown; {
		grown = false
		var now []place
		for s := range reached {
			now = append(now, s)
		}
		for _, s := range now {
			for _, c := range a.Arcs {
				i, ok := reads(c.In, in, s.i)
				if c.From != s.p || !ok {
					continue
				}
				if c.Out == 0 {
					add(place{c.To, s.q, i, s.j})
				}
				for _, d := range b.Arcs {
					if j, ok := reads(d.Out, out, s.j); c.Out != 0 && d.In == c.Out && d.From == s.q && ok {
						add(place{c.To, d.To, i, j})
					}
				}
			}
			for _, d := range b.Arcs {
				if j, ok := reads(d.Out, out, s.j); d.In == 0 && d.From == s.q && ok {
					add(place{s.p, d.To, s.i, j})
				}
			}
		}
	}
	for _, p := range a.Finals {
		for _, q := range b.Finals {
			if reached[place{p, q, len(in), len(out)}] {
				return true
			}
		}
	}
	return false
}

// random returns a small transducer over a and b with epsilons, double arcs, and states that lead nowhere.
func random(r *rand.Rand) api.Transducer {
	t := api.Transducer{States: 1 + r.Intn(4)}
	t.Start = r.Intn(t.States)
	for s := range t.States {
		if r.Intn(3) == 0 {
			t.Finals = append(t.Finals, s)
		}
	}
	for range r.Intn(8) {
		t.Arcs = append(t.Arcs, api.Arc{From: r.Intn(t.States), To: r.Intn(t.States), In: []rune{0, 'a', 'b'}[r.Intn(3)], Out: []rune{0, 'a', 'b'}[r.Intn(3)]})
	}
	return t
}

// strs returns all strings over a and b of at most n runes, in shortlex order.
func strs(n int) []string {
	out, last := []string{""}, []string{""}
	for range n {
		var next []string
		for _, s := range last {
			next = append(next, s+"a", s+"b")
		}
		out, last = append(out, next...), next
	}
	return out
}

// sameRelation reports whether a and b relate the same strings of at most n runes.
func sameRelation(a, b api.Transducer, n int) bool {
	for _, x := range strs(n) {
		for _, y := range strs(n) {
			if transducer.Relates(a, x, y) != transducer.Relates(b, x, y) {
				return false
			}
		}
	}
	return true
}

// equal compares transducers; nil and empty slices are equivalent.
func equal(a, b api.Transducer) bool {
	return a.States == b.States && a.Start == b.Start && slices.Equal(a.Finals, b.Finals) && slices.Equal(a.Arcs, b.Arcs)
}

// same returns a copy of t.
func same(t api.Transducer) api.Transducer {
	t.Finals, t.Arcs = slices.Clone(t.Finals), slices.Clone(t.Arcs)
	return t
}

// arcs returns two states, the second of which is final, with arcs between them.
func arcs(pairs ...rune) api.Transducer {
	t := api.Transducer{States: 2, Finals: []int{1}}
	for i := 0; i+1 < len(pairs); i += 2 {
		t.Arcs = append(t.Arcs, api.Arc{From: 0, To: 1, In: pairs[i], Out: pairs[i+1]})
	}
	return t
}

// loops returns one state, which is final, with arcs to itself.
func loops(pairs ...rune) api.Transducer {
	t := arcs(pairs...)
	t.States, t.Finals = 1, []int{0}
	for i := range t.Arcs {
		t.Arcs[i].To = 0
	}
	return t
}

// row returns n states in a row, the last of which is final.
func row(n int, in, out rune) api.Transducer {
	t := api.Transducer{States: n, Finals: []int{n - 1}}
	for s := range n - 1 {
		t.Arcs = append(t.Arcs, api.Arc{From: s, To: s + 1, In: in, Out: out})
	}
	return t
}

// ring returns n states in a ring, of which the state end is final.
func ring(n, end int, in, out rune) api.Transducer {
	t := api.Transducer{States: n, Finals: []int{end}}
	for s := range n {
		t.Arcs = append(t.Arcs, api.Arc{From: s, To: (s + 1) % n, In: in, Out: out})
	}
	return t
}

// fan returns two states with n arcs between them, whose labels are in and the runes from 0x1000 on, or these and out if in is 0.
func fan(n int, in, out rune) api.Transducer {
	t := api.Transducer{States: 2, Finals: []int{1}}
	for i := range n {
		a := api.Arc{From: 0, To: 1, In: in, Out: out}
		if in == 0 {
			a.In = rune(0x1000 + i)
		} else {
			a.Out = rune(0x1000 + i)
		}
		t.Arcs = append(t.Arcs, a)
	}
	return t
}

// detour writes p, or goes the long way and writes q. Seen from the end, its first states are found twice, before and after they were looked at.
func detour() api.Transducer {
	return api.Transducer{States: 9, Finals: []int{8}, Arcs: []api.Arc{{From: 0, To: 1}, {From: 1, To: 2}, {From: 1, To: 3}, {From: 3, To: 4}, {From: 4, To: 5}, {From: 5, To: 6}, {From: 6, To: 7}, {From: 2, To: 8, Out: 'p'}, {From: 7, To: 8, Out: 'q'}}}
}

// second reads q, or k and then p.
func second() api.Transducer {
	return api.Transducer{States: 3, Finals: []int{2}, Arcs: []api.Arc{{From: 0, To: 1, In: 'k'}, {From: 0, To: 2, In: 'q'}, {From: 1, To: 2, In: 'p'}}}
}

// as returns a word of n runes.
func as(n int) string { return strings.Repeat("a", n) }

// invalid returns transducers that are not valid, in each of the ways.
func invalid() []api.Transducer {
	return []api.Transducer{
		{},
		{States: 513},
		{States: 2, Start: 2},
		{States: 2, Start: -1},
		{States: 2, Finals: []int{1, 1}},
		{States: 2, Finals: []int{2}},
		{States: 2, Arcs: []api.Arc{{From: 0, To: 2}}},
		{States: 2, Arcs: []api.Arc{{From: -1, To: 0}}},
		{States: 2, Arcs: []api.Arc{{In: 0xD800}}},
		{States: 2, Arcs: []api.Arc{{Out: 0x110000}}},
		{States: 2, Arcs: make([]api.Arc, 4097)},
	}
}

// unreadable returns strings that are not readable.
func unreadable() []string {
	return []string{"\xff", "a\x00", "\x00", "\xed\xa0\x80", "ab\xc3", as(41) + "\xff"}
}
