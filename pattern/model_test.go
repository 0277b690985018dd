package pattern

import (
	"math/rand"
	"slices"

	"pentaglot/api"
)

// letters are those of the chapter's examples.
func letters() []api.Letter {
	return []api.Letter{{Rune: 'a', Classes: api.Vowel}, {Rune: 'e', Classes: api.Vowel | api.Front}, {Rune: 'k', Classes: api.Consonant}, {Rune: 't', Classes: api.Consonant}}
}

// many returns n letters.
func many(n int) []api.Letter {
	var out []api.Letter
	for i := range n {
		out = append(out, api.Letter{Rune: rune(0x100 + i), Classes: uint32(1 + i%3)})
	}
	return out
}

// improper returns lists of letters that are not proper.
func improper() [][]api.Letter {
	with := func(r rune) []api.Letter { return append(letters(), api.Letter{Rune: r}) }
	return [][]api.Letter{many(66), with('a'), with('t'), with(32), with(9), with(0), with(-1), with(0xD800), with(0xDFFF), with(0x110000)}
}

// bad returns lists of items that are not patterns over letters.
func bad() [][]api.Item {
	return [][]api.Item{
		make([]api.Item, 4),
		make([]api.Item, 100),
		{{Letters: "z"}},
		{{}, {Letters: "az"}},
		{{}, {}, {Letters: "za", Negated: true}},
		{{Letters: "\xff"}},
		{{Letters: "a\xff", Repeated: true}},
		{{Letters: "\xed\xa0\x80"}},
		{{Letters: "a\uFFFD"}},
		{{Letters: " "}},
		{{Letters: "\x00"}},
	}
}

// admitsBy is the definition of admitting, where all letters of x belong to the list.
func admitsBy(x api.Item, l api.Letter) bool {
	ok := true
	for bit := range 32 {
		if x.Mask>>bit&1 == 1 && l.Classes>>bit&1 == 0 {
			ok = false
		}
	}
	if x.Letters != "" && !slices.Contains([]rune(x.Letters), l.Rune) {
		ok = false
	}
	if x.Negated {
		return !ok
	}
	return ok
}

// matches is the definition: word is divided into pieces, one for each item.
func matches(p []api.Item, word []api.Letter) bool {
	if len(p) == 0 {
		return len(word) == 0
	}
	if !p[0].Repeated {
		return len(word) > 0 && admitsBy(p[0], word[0]) && matches(p[1:], word[1:])
	}
	for n := range len(word) + 1 {
		if n > 0 && !admitsBy(p[0], word[n-1]) {
			return false
		}
		if matches(p[1:], word[n:]) {
			return true
		}
	}
	return false
}

// spell returns a string as letters.
func spell(a []api.Letter, s string) []api.Letter {
	var out []api.Letter
	for _, r := range s {
		out = append(out, a[slices.IndexFunc(a, func(l api.Letter) bool { return l.Rune == r })])
	}
	return out
}

// strs returns all strings over a of at most n letters, in the order of length and then of the letters.
func strs(a []api.Letter, n int) []string {
	out, last := []string{""}, []string{""}
	for range n {
		var next []string
		for _, s := range last {
			for _, l := range a {
				next = append(next, s+string(l.Rune))
			}
		}
		out, last = append(out, next...), next
	}
	return out
}

// randomPattern returns a pattern over letters.
func randomPattern(r *rand.Rand) []api.Item {
	var out []api.Item
	for range r.Intn(4) {
		out = append(out, api.Item{
			Mask:     []uint32{0, 0, api.Vowel, api.Consonant, api.Vowel | api.Front, api.Nasal}[r.Intn(6)],
			Letters:  []string{"", "", "", "a", "ka", "tke"}[r.Intn(6)],
			Negated:  r.Intn(3) == 0,
			Repeated: r.Intn(2) == 0,
		})
	}
	return out
}

// acceptor is the definition of the acceptor, with its sets as lists of bools.
func acceptor(a []api.Letter, p []api.Item) api.Acceptor {
	type positions [5]bool
	closed := func(s positions) positions {
		for k, x := range p {
			if s[k] && x.Repeated {
				s[k+1] = true
			}
		}
		return s
	}
	next := func(s positions, l api.Letter) positions {
		var out positions
		for k, x := range p {
			if !s[k] || !admitsBy(x, l) {
				continue
			}
			if x.Repeated {
				out[k] = true
			} else {
				out[k+1] = true
			}
		}
		return closed(out)
	}
	list := []positions{closed(positions{true})}
	var out api.Acceptor
	for i := 0; i < len(list); i++ {
		var row []int
		for _, l := range a {
			s := next(list[i], l)
			if !slices.Contains(list, s) {
				list = append(list, s)
			}
			row = append(row, slices.Index(list, s))
		}
		out.Next = append(out.Next, row)
		out.Final = append(out.Final, list[i][len(p)])
	}
	return out
}

// randomAcceptor returns an acceptor over n letters, with states that cannot be reached or told apart.
func randomAcceptor(r *rand.Rand, n int) api.Acceptor {
	states := 1 + r.Intn(8)
	x := api.Acceptor{Start: r.Intn(states)}
	for range states {
		var row []int
		for range n {
			row = append(row, r.Intn(states))
		}
		x.Final = append(x.Final, r.Intn(4) == 0)
		x.Next = append(x.Next, row)
	}
	return x
}

// minimal joins the states of x that no string tells apart, pair by pair.
func minimal(x api.Acceptor) api.Acceptor {
	n := len(x.Final)
	apart := make(map[[2]int]bool)
	for grown := true; grown; {
		grown = false
		for s := range n {
			for t := range n {
				differ := x.Final[s] != x.Final[t]
				for k := range x.Next[s] {
					differ = differ || apart[[2]int{x.Next[s][k], x.Next[t][k]}]
				}
				if differ && !apart[[2]int{s, t}] {
					apart[[2]int{s, t}] = true
					grown = true
				}
			}
		}
	}
	// Each state stands for all that are not told apart from it.
	list := []int{x.Start}
	number := func(s int) int {
		return slices.IndexFunc(list, func(t int) bool { return !apart[[2]int{s, t}] })
	}
	var out api.Acceptor
	for i := 0; i < len(list); i++ {
		var row []int
		for _, s := range x.Next[list[i]] {
			if number(s) < 0 {
				list = append(list, s)
			}
			row = append(row, number(s))
		}
		out.Next = append(out.Next, row)
		out.Final = append(out.Final, x.Final[list[i]])
	}
	return out
}

// equal compares acceptors; nil and empty slices are equivalent.
func equal(x, y api.Acceptor) bool {
	return x.Start == y.Start && slices.Equal(x.Final, y.Final) && slices.EqualFunc(x.Next, y.Next, slices.Equal[[]int])
}

// same returns a copy of x.
func same(x api.Acceptor) api.Acceptor {
	out := api.Acceptor{Start: x.Start, Final: slices.Clone(x.Final)}
	for _, row := range x.Next {
		out.Next = append(out.Next, slices.Clone(row))
	}
	return out
}
