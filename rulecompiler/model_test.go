package rulecompiler

import (
	"cmp"
	"math/rand"
	"slices"
	"strings"
	"unicode/utf8"

	"pentaglot/api"
	"pentaglot/pattern"
	"pentaglot/rewrite"
)

// letters are those of the chapter's examples.
func letters() []api.Letter {
	return []api.Letter{{Rune: 'a', Classes: api.Vowel}, {Rune: 't', Classes: api.Consonant}}
}

// three are letters whose order is not that of their runes.
func three() []api.Letter {
	return []api.Letter{{Rune: 't', Classes: api.Consonant}, {Rune: 'a', Classes: api.Vowel}, {Rune: 'e', Classes: api.Vowel | api.Front}}
}

// many returns n letters. From 8 letters on, they have all combinations of the classes 1, 2 and 4, and all of the classes 8, 16 and 32.
func many(n int) []api.Letter {
	var out []api.Letter
	for i := range n {
		out = append(out, api.Letter{Rune: rune(0x100 + i), Classes: uint32(i%8 | (i+i/8)%8<<3)})
	}
	return out
}

// inadmissible returns lists of letters that are not admissible.
func inadmissible() [][]api.Letter {
	with := func(r rune) []api.Letter { return append(letters(), api.Letter{Rune: r}) }
	return [][]api.Letter{nil, {}, many(66), with('a'), with(32), with(0), with(-1), with(0xD800), with(0x110000)}
}

// wrong returns rules that are not valid over letters.
func wrong() []api.Rule {
	return []api.Rule{
		{From: 'x'},
		{From: 32},
		{From: -1},
		{From: 0x110000},
		{From: 't', To: "aaaaa"},
		{From: 't', To: "x"},
		{To: "\xff"},
		{To: "a\x00"},
		{Left: make([]api.Item, 4)},
		{Right: make([]api.Item, 4)},
		{Left: []api.Item{{Letters: "x"}}},
		{Right: []api.Item{{}, {Letters: "a\xff"}}},
	}
}

// wrongWords returns strings that are no words over letters.
func wrongWords() []string {
	return []string{"x", "ax", " ", "\x00", "\xff", "a\xc3", "\uFFFD", strings.Repeat("a", 41), strings.Repeat("t", 1000000)}
}

// automatonBy is the definition of the context automaton, with sets of positions as lists of bools.
func automatonBy(a []api.Letter, items []api.Item, anchored bool) api.Acceptor {
	type positions [api.MaxItems + 1]bool
	closed := func(s positions) positions {
		for k, x := range items {
			if s[k] && x.Repeated {
				s[k+1] = true
			}
		}
		return s
	}
	begin := closed(positions{true})
	next := func(s positions, r rune) positions {
		var out positions
		for k, x := range items {
			if !s[k] || !pattern.Admits(a, x, r) {
				continue
			}
			if x.Repeated {
				out[k] = true
			} else {
				out[k+1] = true
			}
		}
		out = closed(out)
		for k := range begin {
			out[k] = out[k] || begin[k] && !anchored
		}
		return out
	}
	list := []positions{begin}
	var out api.Acceptor
	for i := 0; i < len(list); i++ {
		var row []int
		for _, l := range a {
			s := next(list[i], l.Rune)
			if !slices.Contains(list, s) {
				list = append(list, s)
			}
			row = append(row, slices.Index(list, s))
		}
		out.Next = append(out.Next, row)
		out.Final = append(out.Final, list[i][len(items)])
	}
	return out
}

// constructionBy is the definition of the raw construction of a rule.
func constructionBy(a []api.Letter, r api.Rule) api.Transducer {
	behind := slices.Clone(r.Right)
	slices.Reverse(behind)
	left, right := automatonBy(a, r.Left, r.Initial), automatonBy(a, behind, r.Final)
	to, k := []rune(r.To), len(right.Final)
	n := len(to)
	state := func(p, q, j int) int { return 1 + (p*k+q)*5 + j }
	entry := func(p, q int) int {
		if r.From == 0 && left.Final[p] && right.Final[q] {
			return state(p, q, n)
		}
		return state(p, q, 0)
	}
	t := api.Transducer{States: 1 + len(left.Final)*k*5}
	arc := func(from, to int, in, out rune) {
		t.Arcs = append(t.Arcs, api.Arc{From: from, To: to, In: in, Out: out})
	}
	for q := range k {
		arc(0, entry(0, q), 0, 0)
	}
	for p := range left.Final {
		t.Finals = append(t.Finals, state(p, 0, 0))
		for q := range k {
			for j := 1; j <= n; j++ {
				arc(state(p, q, j), state(p, q, j-1), 0, to[n-j])
			}
		}
		for i, l := range a {
			for x := range k {
				p2, q := left.Next[p][i], right.Next[x][i]
				switch {
				case r.From == l.Rune && left.Final[p] && right.Final[x] && n > 0:
					arc(state(p, q, 0), state(p2, x, n-1), l.Rune, to[0])
				case r.From == l.Rune && left.Final[p] && right.Final[x]:
					arc(state(p, q, 0), state(p2, x, 0), l.Rune, 0)
				default:
					arc(state(p, q, 0), entry(p2, x), l.Rune, l.Rune)
				}
			}
		}
	}
	return t
}

// composedBy is the definition of the raw composition (layer 5).
func composedBy(a, b api.Transducer) api.Transducer {
	pair := func(p, q int) int { return p*b.States + q }
	t := api.Transducer{States: a.States * b.States, Start: pair(a.Start, b.Start)}
	for _, f := range a.Finals {
		for _, g := range b.Finals {
			t.Finals = append(t.Finals, pair(f, g))
		}
	}
	for _, x := range a.Arcs {
		for _, y := range b.Arcs {
			if x.Out != 0 && x.Out == y.In {
				t.Arcs = append(t.Arcs, api.Arc{From: pair(x.From, y.From), To: pair(x.To, y.To), In: x.In, Out: y.Out})
			}
		}
		for q := range b.States {
			if x.Out == 0 {
				t.Arcs = append(t.Arcs, api.Arc{From: pair(x.From, q), To: pair(x.To, q), In: x.In})
			}
		}
	}
	for _, y := range b.Arcs {
		for p := range a.States {
			if y.In == 0 {
				t.Arcs = append(t.Arcs, api.Arc{From: pair(p, y.From), To: pair(p, y.To), Out: y.Out})
			}
		}
	}
	return t
}

// strs returns all strings over a of at most n letters, in shortlex order.
func strs(a []api.Letter, n int) []string {
	out, last := []string{""}, []string{""}
	for range n {
		var next []string
		for _, s := range last {
			for _, l := range a {
				next = append(next, s+string(l.Rune))
			}
		}
		out, last = append(out, next...), next
	}
	slices.SortFunc(out, func(x, y string) int {
		return cmp.Or(cmp.Compare(utf8.RuneCountInString(x), utf8.RuneCountInString(y)), cmp.Compare(x, y))
	})
	return out
}

// preimagesBy is the definition of Preimages.
func preimagesBy(a []api.Letter, rules []api.Rule, surface string, n int) ([]string, api.Errno) {
	var out []string
	for _, w := range strs(a, n) {
		if s, e := rewrite.Cascade(a, rules, w); e == api.OK && s == surface {
			out = append(out, w)
		}
	}
	if len(out) > api.MaxOutputs {
		return nil, api.ErrTooLarge
	}
	return out, api.OK
}

// randomRule returns a rule that is valid over three.
func randomRule(r *rand.Rand) api.Rule {
	items := func() []api.Item {
		var out []api.Item
		for range r.Intn(4) {
			out = append(out, api.Item{
				Mask:     []uint32{0, 0, api.Vowel, api.Consonant, api.Front, api.Nasal}[r.Intn(6)],
				Letters:  []string{"", "", "", "a", "ta", "te"}[r.Intn(6)],
				Negated:  r.Intn(3) == 0,
				Repeated: r.Intn(2) == 0,
			})
		}
		return out
	}
	return api.Rule{
		From: []rune{0, 'a', 'e', 't', 't'}[r.Intn(5)],
		To:   []string{"", "", "a", "e", "t", "at", "ete", "taea"}[r.Intn(8)],
		Left: items(), Right: items(),
		Initial: r.Intn(3) == 0, Final: r.Intn(3) == 0,
	}
}

// randomRules returns at most n rules that are valid over three.
func randomRules(r *rand.Rand, n int) []api.Rule {
	var out []api.Rule
	for range r.Intn(n + 1) {
		out = append(out, randomRule(r))
	}
	return out
}

// equal compares transducers; nil and empty slices are equivalent.
func equal(a, b api.Transducer) bool {
	return a.States == b.States && a.Start == b.Start && slices.Equal(a.Finals, b.Finals) && slices.Equal(a.Arcs, b.Arcs)
}
