package composition

import (
	"iter"
	"math/bits"

	"pentaglot/api"
)

// side is one of two transducers, of which the left one writes what the right one reads: its steps by the states that they leave.
type side [][]step

// step is an arc, with what it writes to the middle or reads from there.
type step struct {
	to     int
	middle rune
}

// set is a set of states of a side: state s is bit s % 64 of word s / 64.
type set []uint64

// newLeft returns t as the left side.
func newLeft(t api.Transducer) side {
	return newSide(t, func(a api.Arc) rune { return a.Out })
}

// newRight returns t as the right side.
func newRight(t api.Transducer) side {
	return newSide(t, func(a api.Arc) rune { return a.In })
}

// newSide returns t as a side, where middle returns what an arc writes to the middle or reads from there.
func newSide(t api.Transducer, middle func(api.Arc) rune) side {
	out := make(side, t.States)
	for _, a := range t.Arcs {
		out[a.From] = append(out[a.From], step{a.To, middle(a)})
	}
	return out
}

// none returns the empty set of states.
func (s side) none() set {
	return make(set, len(s)/64+1)
}

// close adds the states that are reached from those of states without a rune.
func (s side) close(states set) {
	var work []int
	for state := range states.all() {
		work = append(work, state)
	}
	for len(work) > 0 {
		state := work[len(work)-1]
		work = work[:len(work)-1]
		for _, x := range s[state] {
			if x.middle == 0 && !states.has(x.to) {
				states.add(x.to)
				work = append(work, x.to)
			}
		}
	}
}

// image returns the states that are reached from those of states by a step with the rune r.
func (s side) image(states set, r rune) set {
	out := s.none()
	for state := range states.all() {
		for _, x := range s[state] {
			if x.middle == r {
				out.add(x.to)
			}
		}
	}
	return out
}

// runes returns the runes of the steps that leave states.
func (s side) runes(states set) map[rune]bool {
	out := make(map[rune]bool)
	for state := range states.all() {
		for _, x := range s[state] {
			if x.middle != 0 {
				out[x.middle] = true
			}
		}
	}
	return out
}

func (t set) has(s int) bool { return t[s/64]>>(s%64)&1 == 1 }

func (t set) add(s int) { t[s/64] |= 1 << (s % 64) }

// join adds the states of other.
func (t set) join(other set) {
	for i, w := range other {
		t[i] |= w
	}
}

// remove takes the states of other away.
func (t set) remove(other set) {
	for i, w := range other {
		t[i] &^= w
	}
}

// meets reports whether t has a state of other.
func (t set) meets(other set) bool {
	for i, w := range other {
		if t[i]&w != 0 {
			return true
		}
	}
	return false
}

// all yields the states of t, ascending.
func (t set) all() iter.Seq[int] {
	return func(yield func(int) bool) {
		for i, w := range t {
			for ; w != 0; w &= w - 1 {
				if !yield(64*i + bits.TrailingZeros64(w)) {
					return
				}
			}
		}
	}
}
