package rulecompiler

import "pentaglot/api"

// builder builds the raw construction of a rule. Beside the start, its states are those of the left and the right automaton, with the number of runes that are still to be written.
type builder struct {
	contexts
	arcs []api.Arc
}

// construction returns the raw construction of the rule of c over a.
func construction(c contexts, a []api.Letter) api.Transducer {
	b := &builder{contexts: c}
	lefts, rights := len(c.left.Final), len(c.right.Final)
	t := api.Transducer{States: b.state(lefts, 0, 0)}
	for q := range rights {
		b.add(0, b.entry(0, q), 0, 0)
	}
	for p := range lefts {
		t.Finals = append(t.Finals, b.state(p, 0, 0))
		for q := range rights {
			b.write(p, q)
			for letter, l := range a {
				b.read(p, q, letter, l.Rune)
			}
		}
	}
	t.Arcs = b.arcs
	return t
}

// state returns the number of a state.
func (b *builder) state(p, q, rest int) int {
	return 1 + (p*len(b.right.Final)+q)*(api.MaxReplacement+1) + rest
}

// entry returns the state that is entered between two letters: something is to be inserted there, or not.
func (b *builder) entry(p, q int) int {
	if b.inserts(p, q) {
		return b.state(p, q, len(b.to))
	}
	return b.state(p, q, 0)
}

// write adds the arcs that write the rest of the replacement.
func (b *builder) write(p, q int) {
	for i, r := range b.to {
		rest := len(b.to) - i
		b.add(b.state(p, q, rest), b.state(p, q, rest-1), 0, r)
	}
}

// read adds the arc that reads a letter with the rune c from p, before letters after which the right automaton is in q.
func (b *builder) read(p, q, letter int, c rune) {
	from, next := b.state(p, b.right.Next[q][letter], 0), b.left.Next[p][letter]
	switch {
	case !b.replaces(c, p, q):
		b.add(from, b.entry(next, q), c, c)
	case len(b.to) == 0:
		b.add(from, b.state(next, q, 0), c, 0)
	default:
		b.add(from, b.state(next, q, len(b.to)-1), c, b.to[0])
	}
}

// add adds an arc.
func (b *builder) add(from, to int, in, out rune) {
	b.arcs = append(b.arcs, api.Arc{From: from, To: to, In: in, Out: out})
}
