package composition

import (
	"pentaglot/api"
	"pentaglot/transducer"
)

// Functional reports whether a relates each of the words to at most one string, of any length.
func Functional(a api.Transducer, words ...string) (bool, api.Errno) {
	if !valid(a) {
		return false, api.ErrArgument
	}
	if e := check(words...); e != api.OK {
		return false, e
	}
	a = transducer.Trim(a)
	for _, w := range words {
		if !single(whole(word(w), a)) {
			return false, api.OK
		}
	}
	return true, api.OK
}

// single reports whether t, which is trimmed, writes at most one string.
//
// Each way to a state can be continued to the end, and so can each arc. If just one string is written, all ways to a state write the same beginning of it, its next rune depends only on how many runes that beginning has, and all ways end after the same number. The converse holds as well.
func single(t api.Transducer) bool {
	arcs := leaving(t)
	written := map[int]int{t.Start: 0}
	runes := make(map[int]rune)
	for work := []int{t.Start}; len(work) > 0; {
		s := work[len(work)-1]
		work = work[:len(work)-1]
		for _, a := range arcs[s] {
			n := written[s]
			if a.Out != 0 {
				if r, ok := runes[n]; ok && r != a.Out {
					return false
				}
				runes[n] = a.Out
				n++
			}
			if known, ok := written[a.To]; !ok {
				written[a.To] = n
				work = append(work, a.To)
			} else if known != n {
				return false
			}
		}
	}
	for _, f := range t.Finals {
		if written[f] != written[t.Finals[0]] {
			return false
		}
	}
	return true
}
