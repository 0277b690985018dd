package rulecompiler

import (
	"slices"

	"pentaglot/api"
	"pentaglot/matching"
)

// contexts is a rule with the automata of its contexts.
type contexts struct {
	from  rune
	to    []rune
	left  api.Acceptor
	right api.Acceptor
}

// newContexts returns the contexts of r, which is valid over a.
func newContexts(a []api.Letter, r api.Rule) contexts {
	behind := slices.Clone(r.Right)
	slices.Reverse(behind)
	return contexts{r.From, []rune(r.To), automaton(a, r.Left, r.Initial), automaton(a, behind, r.Final)}
}

// automaton returns the context automaton of a pattern.
func automaton(a []api.Letter, items []api.Item, anchored bool) api.Acceptor {
	m := matching.NewMachine(a, items)
	next := m.Next
	if !anchored {
		// A match may begin anywhere.
		next = func(s matching.Set, letter int) matching.Set { return m.Next(s, letter) | m.Start() }
	}
	sets, rows := matching.Explore(m.Start(), len(a), next)
	return matching.Build(sets, rows, m.Final)
}

// hold reports whether both contexts hold between the letters after which the left automaton is in p, and those after which the right one is in q.
func (c contexts) hold(p, q int) bool {
	return c.left.Final[p] && c.right.Final[q]
}

// inserts reports whether the rule inserts between such letters.
func (c contexts) inserts(p, q int) bool {
	return c.from == 0 && c.hold(p, q)
}

// replaces reports whether the rule replaces the rune r between such letters.
func (c contexts) replaces(r rune, p, q int) bool {
	return c.from == r && c.hold(p, q)
}
