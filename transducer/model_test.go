package transducer

import (
	"cmp"
	"math/rand"
	"slices"
	"strings"
	"unicode/utf8"

	"pentaglot/api"
)

// relates is the definition, step by step: which states are reached after i runes of x and j runes of y.
func relates(t api.Transducer, x, y string) bool {
	in, out := []rune(x), []rune(y)
	type place struct{ state, i, j int }
	reached := map[place]bool{{t.Start, 0, 0}: true}
	for grown := true; grown; {
		grown = false
		for _, a := range t.Arcs {
			for i := range len(in) + 1 {
				for j := range len(out) + 1 {
					next := place{a.To, i, j}
					if a.In != 0 {
						next.i++
					}
					if a.Out != 0 {
						next.j++
					}
					if !reached[place{a.From, i, j}] || next.i > len(in) || next.j > len(out) || reached[next] {
						continue
					}
					if a.In != 0 && in[i] != a.In || a.Out != 0 && out[j] != a.Out {
						continue
					}
					reached[next] = true
					grown = true
				}
			}
		}
	}
	return slices.ContainsFunc(t.Finals, func(f int) bool { return reached[place{f, len(in), len(out)}] })
}

// linked returns for each pair of states whether arcs that are allowed lead from one to the other, in any number of steps.
func linked(t api.Transducer, allowed func(api.Arc) bool) [][]bool {
	out := make([][]bool, t.States)
	for s := range out {
		out[s] = make([]bool, t.States)
		out[s][s] = true
	}
	for _, a := range t.Arcs {
		if allowed(a) {
			out[a.From][a.To] = true
		}
	}
	for m := range out {
		for i := range out {
			for j := range out {
				out[i][j] = out[i][j] || out[i][m] && out[m][j]
			}
		}
	}
	return out
}

// trimmed is the definition of Trim.
func trimmed(t api.Transducer) api.Transducer {
	link := linked(t, func(api.Arc) bool { return true })
	number := map[int]int{}
	for s := range t.States {
		if link[t.Start][s] && slices.ContainsFunc(t.Finals, func(f int) bool { return link[s][f] }) {
			number[s] = len(number)
		}
	}
	if len(number) == 0 {
		return api.Transducer{States: 1}
	}
	out := api.Transducer{States: len(number), Start: number[t.Start]}
	for s := range t.States {
		if n, ok := number[s]; ok && slices.Contains(t.Finals, s) {
			out.Finals = append(out.Finals, n)
		}
	}
	for _, a := range t.Arcs {
		from, ok := number[a.From]
		to, ok2 := number[a.To]
		b := api.Arc{From: from, To: to, In: a.In, Out: a.Out}
		if ok && ok2 && !slices.Contains(out.Arcs, b) {
			out.Arcs = append(out.Arcs, b)
		}
	}
	slices.SortFunc(out.Arcs, func(a, b api.Arc) int {
		for _, d := range []int{a.From - b.From, a.To - b.To, int(a.In - b.In), int(a.Out - b.Out)} {
			if d != 0 {
				return d
			}
		}
		return 0
	})
	return out
}

// stepped is the definition of Step.
func stepped(t api.Transducer, states []int, r rune) []int {
	link := linked(t, func(a api.Arc) bool { return a.In == 0 })
	var out []int
	for end := range t.States {
		for _, s := range states {
			if s < 0 || s >= t.States {
				continue
			}
			hit := r == 0 && link[s][end]
			for _, a := range t.Arcs {
				hit = hit || r != 0 && a.In == r && link[s][a.From] && link[a.To][end]
			}
			if hit && !slices.Contains(out, end) {
				out = append(out, end)
			}
		}
	}
	return out
}

// strs returns all strings over a and b of at most n runes, in shortlex order.
func strs(n int) []string {
	out, last := []string{""}, []string{""}
	for range n {
		var next []string
		for _, s := range last {
			next = append(next, s+"a", s+"b")
		}
		out, last = append(out, next...), next
	}
	return out
}

// shortlex is the order of the chapter.
func shortlex(x, y string) int {
	return cmp.Or(cmp.Compare(utf8.RuneCountInString(x), utf8.RuneCountInString(y)), strings.Compare(x, y))
}

// random returns a small transducer over a and b with epsilons, double arcs, and states that lead nowhere.
func random(r *rand.Rand) api.Transducer {
	t := api.Transducer{States: 1 + r.Intn(4)}
	t.Start = r.Intn(t.States)
	for s := range t.States {
		if r.Intn(3) == 0 {
			t.Finals = append(t.Finals, s)
		}
	}
	for range r.Intn(8) {
		t.Arcs = append(t.Arcs, api.Arc{From: r.Intn(t.States), To: r.Intn(t.States), In: []rune{0, 'a', 'b'}[r.Intn(3)], Out: []rune{0, 'a', 'b'}[r.Intn(3)]})
	}
	return t
}

// equal compares transducers; nil and empty slices are equivalent.
func equal(a, b api.Transducer) bool {
	return a.States == b.States && a.Start == b.Start && slices.Equal(a.Finals, b.Finals) && slices.Equal(a.Arcs, b.Arcs)
}

// clone returns a copy of t that shares no memory with it.
func clone(t api.Transducer) api.Transducer {
	t.Finals, t.Arcs = slices.Clone(t.Finals), slices.Clone(t.Arcs)
	return t
}

// chain returns n states in a row, the last of which is final, with arcs from a to b.
func chain(n int) api.Transducer {
	t := api.Transducer{States: n, Finals: []int{n - 1}}
	for s := range n - 1 {
		t.Arcs = append(t.Arcs, api.Arc{From: s, To: s + 1, In: 'a', Out: 'b'})
	}
	return t
}

// loops returns one state that is start and final, with these arcs from it to itself.
func loops(arcs ...api.Arc) api.Transducer {
	return api.Transducer{States: 1, Finals: []int{0}, Arcs: arcs}
}
