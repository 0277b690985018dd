package composition

import (
	"cmp"
	"iter"
	"maps"
	"slices"

	"pentaglot/api"
	"pentaglot/raw"
)

// pair is a state of a raw composition: a state of the left and one of the right transducer.
type pair struct {
	left  int
	right int
}

// move is an arc of a raw composition.
type move struct {
	to  pair
	in  rune
	out rune
}

// product is a raw composition of transducers of any size. Its arcs are found when they are asked for, because there may be far more of them than remain after trimming.
type product struct {
	left  [][]api.Arc // by the states that they leave
	right [][]api.Arc
}

// newProduct returns the raw composition of a and b.
func newProduct(a, b api.Transducer) product {
	return product{leaving(a), leaving(b)}
}

// newReversed returns the raw composition of a and b, with all arcs in the opposite direction.
func newReversed(a, b api.Transducer) product {
	return newProduct(turned(a), turned(b))
}

// after yields the arcs that leave p.
func (c product) after(p pair) iter.Seq[move] {
	return func(yield func(move) bool) {
		for _, x := range c.left[p.left] {
			if x.Out == 0 && !yield(move{to: pair{x.To, p.right}, in: x.In}) {
				return
			}
			for _, y := range c.right[p.right] {
				if x.Out != 0 && y.In == x.Out && !yield(move{pair{x.To, y.To}, x.In, y.Out}) {
					return
				}
			}
		}
		for _, y := range c.right[p.right] {
			if y.In == 0 && !yield(move{to: pair{p.left, y.To}, out: y.Out}) {
				return
			}
		}
	}
}

// reach yields those of from, and the pairs that are reached from them, by way of pairs that are allowed; each once.
func (c product) reach(allowed func(pair) bool, from ...pair) iter.Seq[pair] {
	return func(yield func(pair) bool) {
		seen := make(map[pair]bool)
		var work []pair
		visit := func(p pair) {
			if !seen[p] && allowed(p) {
				seen[p] = true
				work = append(work, p)
			}
		}
		for _, p := range from {
			visit(p)
		}
		for len(work) > 0 {
			p := work[len(work)-1]
			work = work[:len(work)-1]
			if !yield(p) {
				return
			}
			for m := range c.after(p) {
				visit(m.to)
			}
		}
	}
}

// anywhere allows all pairs.
func anywhere(pair) bool { return true }

// composed returns the raw composition of a and b, trimmed; ErrTooLarge if it has more states or arcs than given.
func composed(a, b api.Transducer, states, arcs int) (api.Transducer, api.Errno) {
	number, e := numbers(a, b, states)
	if e != api.OK {
		return api.Transducer{}, e
	}
	if len(number) == 0 {
		return api.Transducer{States: 1}, api.OK
	}
	found, e := newProduct(a, b).between(number, arcs)
	if e != api.OK {
		return api.Transducer{}, e
	}
	out := api.Transducer{States: len(number), Start: number[start(a, b)], Arcs: found}
	for _, p := range finals(a, b) {
		if n, ok := number[p]; ok {
			out.Finals = append(out.Finals, n)
		}
	}
	// Nothing is left to remove, but the arcs are not sorted yet.
	return raw.Trim(out), api.OK
}

// numbers returns the pairs on a path from the start to a final pair of the raw composition of a and b, with their numbers after trimming; ErrTooLarge if there are more than limit.
func numbers(a, b api.Transducer, limit int) (map[pair]int, api.Errno) {
	reached := make(map[pair]bool)
	for p := range newProduct(a, b).reach(anywhere, start(a, b)) {
		reached[p] = true
	}
	var useful []pair
	for p := range newReversed(a, b).reach(func(p pair) bool { return reached[p] }, finals(a, b)...) {
		if useful = append(useful, p); len(useful) > limit {
			return nil, api.ErrTooLarge
		}
	}
	slices.SortFunc(useful, func(p, q pair) int {
		return cmp.Or(cmp.Compare(p.left, q.left), cmp.Compare(p.right, q.right))
	})
	out := make(map[pair]int)
	for i, p := range useful {
		out[p] = i
	}
	return out, api.OK
}

// between returns the arcs between the pairs that have a number, by these numbers, each once and in any order; ErrTooLarge if there are more than limit.
func (c product) between(number map[pair]int, limit int) ([]api.Arc, api.Errno) {
	found := make(map[api.Arc]bool)
	for p, from := range number {
		for m := range c.after(p) {
			if to, ok := number[m.to]; ok {
				found[api.Arc{From: from, To: to, In: m.in, Out: m.out}] = true
			}
			if len(found) > limit {
				return nil, api.ErrTooLarge
			}
		}
	}
	return slices.Collect(maps.Keys(found)), api.OK
}

// start returns the start of the raw composition of a and b.
func start(a, b api.Transducer) pair {
	return pair{a.Start, b.Start}
}

// finals returns the final states of the raw composition of a and b.
func finals(a, b api.Transducer) []pair {
	var out []pair
	for _, f := range a.Finals {
		for _, g := range b.Finals {
			out = append(out, pair{f, g})
		}
	}
	return out
}

// leaving returns the arcs of t by the states that they leave.
func leaving(t api.Transducer) [][]api.Arc {
	out := make([][]api.Arc, t.States)
	for _, a := range t.Arcs {
		out[a.From] = append(out[a.From], a)
	}
	return out
}

// turned returns t with From and To of each arc exchanged.
func turned(t api.Transducer) api.Transducer {
	out := api.Transducer{States: t.States}
	for _, a := range t.Arcs {
		a.From, a.To = a.To, a.From
		out.Arcs = append(out.Arcs, a)
	}
	return out
}
