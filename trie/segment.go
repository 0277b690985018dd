package trie

import (
	"iter"

	"pentaglot/api"
)

// Segment returns all divisions of s into keys, the longer first keys first; at most MaxOutputs.
func (t *Trie[V]) Segment(s string) [][]string {
	var out [][]string
	for d := range t.divisions(s) {
		out = append(out, d)
		if len(out) == api.MaxOutputs {
			break
		}
	}
	return out
}

// divisions iterates over the divisions of s in their order. It holds the cuts of one division in a list instead of calling itself for each key, because a long string may have millions of them.
func (t *Trie[V]) divisions(s string) iter.Seq[[]string] {
	return func(yield func([]string) bool) {
		divisible := t.divisible(s)
		// cut returns the end of the longest key that begins at start and ends at limit or before, if the rest of s is divisible; start if there is no such key.
		cut := func(start, limit int) int {
			end := start
			for k := range t.Prefixes(s[start:limit]) {
				if divisible[start+len(k)] {
					end = start + len(k)
				}
			}
			return end
		}
		cuts := []int{0}
		for more := divisible[0]; more; cuts, more = nextCuts(cuts, cut) {
			for last := cuts[len(cuts)-1]; last < len(s); {
				last = cut(last, len(s))
				cuts = append(cuts, last)
			}
			if !yield(parts(s, cuts)) {
				return
			}
		}
	}
}

// divisible tells for each index of s, and its length, whether the part from there on has a division. Without that, the search would try all beginnings of strings that have none.
func (t *Trie[V]) divisible(s string) []bool {
	out := make([]bool, len(s)+1)
	out[len(s)] = true
	for i := len(s) - 1; i >= 0; i-- {
		for k := range t.Prefixes(s[i:]) {
			if out[i+len(k)] {
				out[i] = true
				break
			}
		}
	}
	return out
}

// nextCuts returns the cuts of a division up to the last key for which there is a shorter one, and the cut of that one instead; false if there is none.
func nextCuts(cuts []int, cut func(start, limit int) int) ([]int, bool) {
	for i := len(cuts) - 1; i > 0; i-- {
		if end := cut(cuts[i-1], cuts[i]-1); end > cuts[i-1] {
			return append(cuts[:i], end), true
		}
	}
	return nil, false
}

// parts returns what is between the cuts.
func parts(s string, cuts []int) []string {
	out := make([]string, len(cuts)-1)
	for i := range out {
		out[i] = s[cuts[i]:cuts[i+1]]
	}
	return out
}
