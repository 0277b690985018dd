package matching

import "pentaglot/api"

// Set is a set of positions of a pattern: bit k stands for position k.
type Set uint

// Machine follows the closed sets of positions of a pattern.
type Machine struct {
	items    int
	repeated Set   // the positions of the Repeated items
	admitted []Set // for each letter, the positions of the items that admit it
}

// NewMachine returns the machine of the pattern p over a.
func NewMachine(a []api.Letter, p []api.Item) Machine {
	m := Machine{items: len(p), admitted: make([]Set, len(a))}
	for k, x := range p {
		if x.Repeated {
			m.repeated |= 1 << k
		}
		for i, l := range a {
			if Admits(x, l) {
				m.admitted[i] |= 1 << k
			}
		}
	}
	return m
}

// Start returns the smallest closed set that contains position 0.
func (m Machine) Start() Set {
	return m.closed(1)
}

// Next returns the successor of s under a letter.
func (m Machine) Next(s Set, letter int) Set {
	moving := s & m.admitted[letter]
	return m.closed(moving&m.repeated | (moving&^m.repeated)<<1)
}

// Final reports whether s contains the last position.
func (m Machine) Final(s Set) bool {
	return s>>m.items&1 == 1
}

// closed returns the smallest closed set that contains s.
func (m Machine) closed(s Set) Set {
	for k := range m.items {
		// The positions are in ascending order, so that a position that is added is itself looked at.
		s |= (s & m.repeated & (1 << k)) << 1
	}
	return s
}
