package algebra

import (
	"math/rand"
	"slices"
	"strings"

	"pentaglot/api"
	"pentaglot/transducer"
)

// result is the definition of a result: a raw construction, trimmed by its links between all states, or ErrTooLarge.
func result(t api.Transducer) (api.Transducer, api.Errno) {
	link := make([][]bool, t.States)
	for s := range link {
		link[s] = make([]bool, t.States)
		link[s][s] = true
	}
	for _, a := range t.Arcs {
		link[a.From][a.To] = true
	}
	for m := range link {
		for i := range link {
			for j := range link {
				link[i][j] = link[i][j] || link[i][m] && link[m][j]
			}
		}
	}
	number := map[int]int{}
	for s := range t.States {
		if link[t.Start][s] && slices.ContainsFunc(t.Finals, func(f int) bool { return link[s][f] }) {
			number[s] = len(number)
		}
	}
	if len(number) == 0 {
		return api.Transducer{States: 1}, api.OK
	}
	out := api.Transducer{States: len(number), Start: number[t.Start]}
	for s := range t.States {
		if n, ok := number[s]; ok && slices.Contains(t.Finals, s) {
			out.Finals = append(out.Finals, n)
		}
	}
	for _, a := range t.Arcs {
		from, ok := number[a.From]
		to, ok2 := number[a.To]
		b := api.Arc{From: from, To: to, In: a.In, Out: a.Out}
		if ok && ok2 && !slices.Contains(out.Arcs, b) {
			out.Arcs = append(out.Arcs, b)
		}
	}
	slices.SortFunc(out.Arcs, func(a, b api.Arc) int {
		for _, d := range []int{a.From - b.From, a.To - b.To, int(a.In - b.In), int(a.Out - b.Out)} {
			if d != 0 {
				return d
			}
		}
		return 0
	})
	if out.States > 512 || len(out.Arcs) > 4096 {
		return api.Transducer{}, api.ErrTooLarge
	}
	return out, api.OK
}

// moved returns the arcs of a after k.
func moved(a api.Transducer, k int) []api.Arc {
	var out []api.Arc
	for _, c := range a.Arcs {
		out = append(out, api.Arc{From: c.From + k, To: c.To + k, In: c.In, Out: c.Out})
	}
	return out
}

// rawUnion, rawConcat, rawStar and rawReverse are the lines of the table of the chapter.
func rawUnion(a, b api.Transducer) api.Transducer {
	k := 1 + a.States
	t := api.Transducer{States: k + b.States, Arcs: append(moved(a, 1), moved(b, k)...)}
	t.Arcs = append(t.Arcs, api.Arc{To: 1 + a.Start}, api.Arc{To: k + b.Start})
	for _, f := range a.Finals {
		t.Finals = append(t.Finals, 1+f)
	}
	for _, f := range b.Finals {
		t.Finals = append(t.Finals, k+f)
	}
	return t
}

func rawConcat(a, b api.Transducer) api.Transducer {
	t := api.Transducer{States: a.States + b.States, Start: a.Start, Arcs: append(moved(a, 0), moved(b, a.States)...)}
	for _, f := range a.Finals {
		t.Arcs = append(t.Arcs, api.Arc{From: f, To: a.States + b.Start})
	}
	for _, f := range b.Finals {
		t.Finals = append(t.Finals, a.States+f)
	}
	return t
}

func rawStar(a api.Transducer) api.Transducer {
	t := api.Transducer{States: 1 + a.States, Finals: []int{0}, Arcs: append(moved(a, 1), api.Arc{To: 1 + a.Start})}
	for _, f := range a.Finals {
		t.Arcs = append(t.Arcs, api.Arc{From: 1 + f})
	}
	return t
}

func rawReverse(a api.Transducer) api.Transducer {
	t := api.Transducer{States: 1 + a.States, Finals: []int{1 + a.Start}}
	for _, c := range a.Arcs {
		t.Arcs = append(t.Arcs, api.Arc{From: 1 + c.To, To: 1 + c.From, In: c.In, Out: c.Out})
	}
	for _, f := range a.Finals {
		t.Arcs = append(t.Arcs, api.Arc{To: 1 + f})
	}
	return t
}

// rawLabels returns a with other labels.
func rawLabels(a api.Transducer, in, out func(api.Arc) rune) api.Transducer {
	t := api.Transducer{States: a.States, Start: a.Start, Finals: a.Finals}
	for _, c := range a.Arcs {
		t.Arcs = append(t.Arcs, api.Arc{From: c.From, To: c.To, In: in(c), Out: out(c)})
	}
	return t
}

func inOf(c api.Arc) rune  { return c.In }
func outOf(c api.Arc) rune { return c.Out }

// rawPairs is the line of Pairs; the arcs are searched one by one.
func rawPairs(list ...[2]string) api.Transducer {
	t := api.Transducer{States: 1}
	for _, p := range list {
		state := 0
		x, y := []rune(p[0]), []rune(p[1])
		for len(x) < len(y) {
			x = append(x, 0)
		}
		for len(y) < len(x) {
			y = append(y, 0)
		}
		for i := range x {
			k := slices.IndexFunc(t.Arcs, func(a api.Arc) bool { return a.From == state && a.In == x[i] && a.Out == y[i] })
			if k < 0 {
				k = len(t.Arcs)
				t.Arcs = append(t.Arcs, api.Arc{From: state, To: t.States, In: x[i], Out: y[i]})
				t.States++
			}
			state = t.Arcs[k].To
		}
		t.Finals = append(t.Finals, state)
	}
	return t
}

// random returns a small transducer over a and b with epsilons, double arcs, and states that lead nowhere.
func random(r *rand.Rand) api.Transducer {
	t := api.Transducer{States: 1 + r.Intn(4)}
	t.Start = r.Intn(t.States)
	for s := range t.States {
		if r.Intn(3) == 0 {
			t.Finals = append(t.Finals, s)
		}
	}
	for range r.Intn(8) {
		t.Arcs = append(t.Arcs, api.Arc{From: r.Intn(t.States), To: r.Intn(t.States), In: []rune{0, 'a', 'b'}[r.Intn(3)], Out: []rune{0, 'a', 'b'}[r.Intn(3)]})
	}
	return t
}

// strs returns all strings over a and b of at most n runes.
func strs(n int) []string {
	out, last := []string{""}, []string{""}
	for range n {
		var next []string
		for _, s := range last {
			next = append(next, s+"a", s+"b")
		}
		out, last = append(out, next...), next
	}
	return out
}

// relation returns the pairs of strings of at most n runes that t relates.
func relation(t api.Transducer, n int) map[[2]string]bool {
	out := map[[2]string]bool{}
	for _, x := range strs(n) {
		for _, y := range strs(n) {
			if transducer.Relates(t, x, y) {
				out[[2]string{x, y}] = true
			}
		}
	}
	return out
}

// products returns the pairs of a, followed by those of b, whose strings have at most n runes.
func products(a, b map[[2]string]bool, n int) map[[2]string]bool {
	out := map[[2]string]bool{}
	for p := range a {
		for q := range b {
			if r := ([2]string{p[0] + q[0], p[1] + q[1]}); len(r[0]) <= n && len(r[1]) <= n {
				out[r] = true
			}
		}
	}
	return out
}

// reversed returns s from its last rune to its first one.
func reversed(s string) string {
	r := []rune(s)
	slices.Reverse(r)
	return string(r)
}

// equal compares transducers; nil and empty slices are equivalent.
func equal(a, b api.Transducer) bool {
	return a.States == b.States && a.Start == b.Start && slices.Equal(a.Finals, b.Finals) && slices.Equal(a.Arcs, b.Arcs)
}

// chain returns n states in a row, the last of which is final, with arcs from a to b.
func chain(n int) api.Transducer {
	t := api.Transducer{States: n, Finals: []int{n - 1}}
	for s := range n - 1 {
		t.Arcs = append(t.Arcs, api.Arc{From: s, To: s + 1, In: 'a', Out: 'b'})
	}
	return t
}

// dead returns chain(n) without its final state.
func dead(n int) api.Transducer {
	t := chain(n)
	t.Finals = nil
	return t
}

// fan returns two states with n different arcs between them.
func fan(n int) api.Transducer {
	t := api.Transducer{States: 2, Finals: []int{1}}
	for i := range n {
		t.Arcs = append(t.Arcs, api.Arc{From: 0, To: 1, In: rune(1 + i), Out: rune(1 + i)})
	}
	return t
}

// as returns a word of n runes.
func as(n int) string { return strings.Repeat("a", n) }
