package transducer

import (
	"math"

	"pentaglot/api"
)

// Shortest returns the first pair that t relates: by the sum of the lengths, then input, then output in shortlex order.
func Shortest(t api.Transducer) (string, string, bool) {
	if Empty(t) {
		return "", "", false
	}
	short := tight(t)
	inputs := api.Transducer{States: short.States, Start: short.Start, Finals: short.Finals}
	for _, a := range short.Arcs {
		a.In, a.Out = 0, a.In
		inputs.Arcs = append(inputs.Arcs, a)
	}
	// A shortest path passes each state at most once, so that both strings have fewer runes than there are states.
	x := first(inputs, "", api.MaxStates)
	return x, first(short, x, api.MaxStates), true
}

// tight returns t with only the arcs that lead nearer to the end by what they cost, so that it relates just the pairs of t with the least sum of lengths.
func tight(t api.Transducer) api.Transducer {
	rest := distances(t)
	out := api.Transducer{States: t.States, Start: t.Start, Finals: t.Finals}
	for _, a := range t.Arcs {
		if rest[a.To] < math.MaxInt && rest[a.From] == rest[a.To]+cost(a) {
			out.Arcs = append(out.Arcs, a)
		}
	}
	return out
}

// distances returns the least sum of the lengths of what is read and written from each state to a final one, or MaxInt if there is no such path.
func distances(t api.Transducer) []int {
	rest := make([]int, t.States)
	for s := range rest {
		rest[s] = math.MaxInt
	}
	for _, f := range t.Finals {
		rest[f] = 0
	}
	for range t.States {
		for _, a := range t.Arcs {
			if rest[a.To] < math.MaxInt {
				rest[a.From] = min(rest[a.From], rest[a.To]+cost(a))
			}
		}
	}
	return rest
}

// cost returns how many runes a reads and writes.
func cost(a api.Arc) int {
	n := 0
	if a.In != 0 {
		n++
	}
	if a.Out != 0 {
		n++
	}
	return n
}
