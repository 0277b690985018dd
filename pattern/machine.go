package pattern

import "pentaglot/api"

// set is a set of positions of a pattern: bit k stands for position k.
type set uint

// machine follows the closed sets of positions of a pattern.
type machine struct {
	items    int
	repeated set   // the positions of the Repeated items
	admitted []set // for each letter, the positions of the items that admit it
}

// newMachine returns the machine of the pattern p over a.
func newMachine(a []api.Letter, p []api.Item) machine {
	m := machine{items: len(p), admitted: make([]set, len(a))}
	for k, x := range p {
		if x.Repeated {
			m.repeated |= 1 << k
		}
		for i, l := range a {
			if admits(x, l) {
				m.admitted[i] |= 1 << k
			}
		}
	}
	return m
}

// start returns the smallest closed set that contains position 0.
func (m machine) start() set {
	return m.closed(1)
}

// next returns the successor of s under a letter.
func (m machine) next(s set, letter int) set {
	moving := s & m.admitted[letter]
	return m.closed(moving&m.repeated | (moving&^m.repeated)<<1)
}

// final reports whether s contains the last position.
func (m machine) final(s set) bool {
	return s>>m.items&1 == 1
}

// closed returns the smallest closed set that contains s.
func (m machine) closed(s set) set {
	for k := range m.items {
		// The positions are in ascending order, so that a position that is added is itself looked at.
		s |= (s & m.repeated & (1 << k)) << 1
	}
	return s
}

// hits returns the lengths of the beginnings of word after which the pattern is matched, ascending.
func (m machine) hits(word []int) []int {
	var out []int
	now := m.start()
	if m.final(now) {
		out = append(out, 0)
	}
	for i, letter := range word {
		now = m.next(now, letter)
		if m.final(now) {
			out = append(out, i+1)
		}
	}
	return out
}
