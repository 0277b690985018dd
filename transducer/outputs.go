package transducer

import (
	"maps"
	"slices"

	"pentaglot/api"
	"pentaglot/raw"
)

// search looks for the outputs of one string. Its spots are states with the number of runes that are read, from which the end can be reached; they are numbered, because most of the time is spent with sets of them.
type search struct {
	word    []rune
	ahead   [][]api.Arc
	back    [][]api.Arc
	numbers map[spot]int
	spots   []spot
	rest    []int    // the least number of runes that are still written from each spot to the end
	links   [][]link // those that were asked for
	round   int
	found   []int // the last round in which each spot was found
}

// link is a way from one spot to another by one arc, with what it writes.
type link struct {
	to  int
	out rune
}

// branch is a beginning of outputs, with the spots at which it is written.
type branch struct {
	before *branch
	last   rune
	spots  []int
}

// Outputs returns all outputs of x of at most n runes, in shortlex order.
func Outputs(t api.Transducer, x string, n int) ([]string, api.Errno) {
	if !Valid(t) || !raw.Readable(x) || n < 0 || n > api.MaxText {
		return nil, api.ErrArgument
	}
	s := newSearch(t, x, n)
	var out []string
	level := s.roots(t.Start, n)
	for left := n - 1; len(level) > 0; left-- {
		var next []*branch
		for _, b := range level {
			if s.complete(b) {
				out = append(out, b.text())
			}
			next = append(next, s.grow(b, left)...)
			// Every branch ends in at least one output, and branches of one length in different ones.
			if len(out)+len(next) > api.MaxOutputs {
				return nil, api.ErrTooLarge
			}
			b.spots = nil
		}
		level = next
	}
	return out, api.OK
}

// first returns the first output of x in shortlex order, where t is valid and relates x to some string of at most n runes.
func first(t api.Transducer, x string, n int) string {
	s := newSearch(t, x, n)
	length := s.rest[s.numbers[spot{state: t.Start}]]
	level := s.roots(t.Start, length)
	for left := length - 1; left >= 0; left-- {
		level = s.grow(level[0], left)
	}
	return level[0].text()
}

// newSearch prepares a search for the outputs of x of at most n runes.
func newSearch(t api.Transducer, x string, n int) *search {
	s := &search{word: []rune(x), ahead: leaving(t), back: entering(t), numbers: make(map[spot]int)}
	var level []spot
	for _, f := range t.Finals {
		level = append(level, spot{f, len(s.word)})
	}
	// From the end on, what is written grows by one rune from level to level, so that each spot is found with its least rest.
	for d := 0; d <= n && len(level) > 0; d++ {
		level = s.addLevel(level, d)
	}
	s.links, s.found = make([][]link, len(s.spots)), make([]int, len(s.spots))
	return s
}

// addLevel numbers those spots of level that are new, and the new spots from which they are reached by writing nothing, with the rest d. It returns the spots from which these are reached by writing a rune.
func (s *search) addLevel(level []spot, d int) []spot {
	begin := len(s.spots)
	add := func(p spot) {
		if _, ok := s.numbers[p]; !ok {
			s.numbers[p] = len(s.spots)
			s.spots, s.rest = append(s.spots, p), append(s.rest, d)
		}
	}
	for _, p := range level {
		add(p)
	}
	var next []spot
	for i := begin; i < len(s.spots); i++ {
		s.before(s.spots[i], func(q spot, out rune) {
			if out == 0 {
				add(q)
			} else {
				next = append(next, q)
			}
		})
	}
	return next
}

// before visits the spots before p, with what is written on the way from them.
func (s *search) before(p spot, visit func(q spot, out rune)) {
	for _, a := range s.back[p.state] {
		q := spot{a.From, p.passed}
		if a.In != 0 {
			q.passed--
		}
		if s.reads(a, q) {
			visit(q, a.Out)
		}
	}
}

// after returns the links from spot number i.
func (s *search) after(i int) []link {
	if s.links[i] != nil {
		return s.links[i]
	}
	p := s.spots[i]
	for _, a := range s.ahead[p.state] {
		q := spot{a.To, p.passed}
		if a.In != 0 {
			q.passed++
		}
		if n, ok := s.numbers[q]; ok && s.reads(a, p) {
			s.links[i] = append(s.links[i], link{n, a.Out})
		}
	}
	return s.links[i]
}

// reads reports whether a can be followed from p: it reads nothing, or the next rune of the word.
func (s *search) reads(a api.Arc, p spot) bool {
	return a.In == 0 || p.passed >= 0 && p.passed < len(s.word) && s.word[p.passed] == a.In
}

// silent returns the spots that are reached from those of start by writing nothing, and whose rest is at most n.
func (s *search) silent(start []int, n int) []int {
	s.round++
	var out []int
	visit := func(i int) {
		if s.found[i] != s.round && s.rest[i] <= n {
			s.found[i] = s.round
			out = append(out, i)
		}
	}
	for _, i := range start {
		visit(i)
	}
	for k := 0; k < len(out); k++ {
		for _, l := range s.after(out[k]) {
			if l.out == 0 {
				visit(l.to)
			}
		}
	}
	return out
}

// roots returns the empty branch, if it has outputs of at most n runes.
func (s *search) roots(start, n int) []*branch {
	i, ok := s.numbers[spot{state: start}]
	if !ok {
		return nil
	}
	return []*branch{{spots: s.silent([]int{i}, n)}}
}

// grow returns the branches with one more rune than b that have outputs of at most n further runes, in the order of these runes.
func (s *search) grow(b *branch, n int) []*branch {
	heads := make(map[rune][]int)
	for _, i := range b.spots {
		for _, l := range s.after(i) {
			if l.out != 0 && s.rest[l.to] <= n {
				heads[l.out] = append(heads[l.out], l.to)
			}
		}
	}
	var list []*branch
	for _, r := range slices.Sorted(maps.Keys(heads)) {
		list = append(list, &branch{before: b, last: r, spots: s.silent(heads[r], n)})
	}
	return list
}

// complete reports whether b is an output itself.
func (s *search) complete(b *branch) bool {
	return slices.ContainsFunc(b.spots, func(i int) bool { return s.rest[i] == 0 })
}

// text returns the runes of b. The root, which has no rune, has nothing before it.
func (b *branch) text() string {
	var out []rune
	for ; b.before != nil; b = b.before {
		out = append(out, b.last)
	}
	slices.Reverse(out)
	return string(out)
}
