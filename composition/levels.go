package composition

import (
	"iter"

	"pentaglot/api"
)

// rows is a set of pairs of states: the states of the right side by the state of the left side that they are paired with. After words of MaxWord runes there may be hundreds of millions of pairs, too many for a map that holds each of them.
type rows map[int]set

// meeting goes through the pairs of states of two sides from the end to the beginning.
type meeting struct {
	left  side
	right side
	seen  rows
}

// levels yields, for each number from 0 on, the pairs of states from which left and right can both end after that many further runes in the middle, but not after fewer. No level is empty.
func levels(left, right api.Transducer) iter.Seq[rows] {
	return func(yield func(rows) bool) {
		m := meeting{newLeft(turned(left)), newRight(turned(right)), make(rows)}
		next := make(rows)
		for _, p := range finals(left, right) {
			m.row(next, p.left).add(p.right)
		}
		for level := m.spread(next); len(level) > 0; level = m.spread(m.back(level)) {
			if !yield(level) {
				return
			}
		}
	}
}

// spread returns the pairs of next that were not seen before, with those that lead to them without a rune. It changes next.
func (m meeting) spread(next rows) rows {
	level, waiting := make(rows), make(map[int]bool)
	var queue []int
	add := func(l int, states set) {
		if m.take(level, l, states) && !waiting[l] {
			waiting[l] = true
			queue = append(queue, l)
		}
	}
	for l, states := range next {
		// What was seen is closed already.
		states.remove(m.seen[l])
		m.right.close(states)
		add(l, states)
	}
	// A silent step of the left side keeps the states of the right side, so that they remain closed.
	for ; len(queue) > 0; queue = queue[1:] {
		l := queue[0]
		waiting[l] = false
		for _, x := range m.left[l] {
			if x.middle == 0 {
				add(x.to, level[l])
			}
		}
	}
	return level
}

// take adds the pairs of l and states that were not seen before to level, and reports whether there are any.
func (m meeting) take(level rows, l int, states set) bool {
	seen, taken := m.row(m.seen, l), false
	for i, w := range states {
		if fresh := w &^ seen[i]; fresh != 0 {
			seen[i] |= fresh
			m.row(level, l)[i] |= fresh
			taken = true
		}
	}
	return taken
}

// back returns the pairs that lead to those of level by a rune.
func (m meeting) back(level rows) rows {
	out := make(rows)
	for l, states := range level {
		images := make(map[rune]set)
		for _, x := range m.left[l] {
			if x.middle == 0 {
				continue
			}
			if images[x.middle] == nil {
				images[x.middle] = m.right.image(states, x.middle)
			}
			m.row(out, x.to).join(images[x.middle])
		}
	}
	return out
}

// row returns the states that are paired with l in r, to be changed there.
func (m meeting) row(r rows, l int) set {
	if r[l] == nil {
		r[l] = m.right.none()
	}
	return r[l]
}
