// Package raw contains what the layers that construct transducers share. It trims raw constructions: transducers of any size, whose limits are checked only after they are trimmed.
package raw

import (
	"cmp"
	"slices"
	"strings"
	"unicode/utf8"

	"pentaglot/api"
)

// Result returns the result of the raw construction t: t trimmed, or ErrTooLarge if that exceeds the limits of a transducer.
func Result(t api.Transducer) (api.Transducer, api.Errno) {
	out := Trim(t)
	if out.States > api.MaxStates || len(out.Arcs) > api.MaxArcs {
		return api.Transducer{}, api.ErrTooLarge
	}
	return out, api.OK
}

// Trim returns t as transducer.Trim does. All numbers in t must be those of states; its final states may be in any order.
func Trim(t api.Transducer) api.Transducer {
	number, states := renumber(t)
	if number[t.Start] < 0 {
		return api.Transducer{States: 1}
	}
	out := api.Transducer{States: states, Start: number[t.Start]}
	for _, f := range t.Finals {
		if number[f] >= 0 {
			out.Finals = append(out.Finals, number[f])
		}
	}
	slices.Sort(out.Finals)
	out.Finals = slices.Compact(out.Finals)
	for _, a := range t.Arcs {
		a.From, a.To = number[a.From], number[a.To]
		if a.From >= 0 && a.To >= 0 {
			out.Arcs = append(out.Arcs, a)
		}
	}
	slices.SortFunc(out.Arcs, compare)
	out.Arcs = slices.Compact(out.Arcs)
	return out
}

// renumber returns the new numbers of the states, -1 for those that are not on a path from the start to a final state, and the number of the others.
func renumber(t api.Transducer) ([]int, int) {
	ahead, back := make([][]int, t.States), make([][]int, t.States)
	for _, a := range t.Arcs {
		ahead[a.From] = append(ahead[a.From], a.To)
		back[a.To] = append(back[a.To], a.From)
	}
	reached, reaching := reach(ahead, t.Start), reach(back, t.Finals...)
	number, count := make([]int, t.States), 0
	for s := range number {
		if reached[s] && reaching[s] {
			number[s] = count
			count++
		} else {
			number[s] = -1
		}
	}
	return number, count
}

// reach returns which states can be reached from the given ones, where next lists the neighbours of each state.
func reach(next [][]int, from ...int) []bool {
	seen := make([]bool, len(next))
	var work []int
	visit := func(states []int) {
		for _, s := range states {
			if !seen[s] {
				seen[s] = true
				work = append(work, s)
			}
		}
	}
	visit(from)
	for len(work) > 0 {
		s := work[len(work)-1]
		work = work[:len(work)-1]
		visit(next[s])
	}
	return seen
}

// compare is the order of arcs in a trimmed transducer.
func compare(a, b api.Arc) int {
	return cmp.Or(cmp.Compare(a.From, b.From), cmp.Compare(a.To, b.To), cmp.Compare(a.In, b.In), cmp.Compare(a.Out, b.Out))
}

// Readable reports whether x is a string that transducers read: valid UTF-8 without the rune 0, which is epsilon.
func Readable(x string) bool {
	return utf8.ValidString(x) && strings.IndexByte(x, 0) < 0
}
