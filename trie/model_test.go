package trie

import (
	"fmt"
	"iter"
	"maps"
	"math/rand"
	"slices"
	"strings"
	"testing"
)

// entry is a key with its value.
type entry struct {
	key   string
	value int
}

// with returns a trie with the keys, whose values are their indices.
func with(keys ...string) *Trie[int] {
	t := New[int]()
	for i, k := range keys {
		t.Put(k, i)
	}
	return t
}

// list returns what an iterator yields.
func list(all iter.Seq2[string, int]) []entry {
	var out []entry
	for k, v := range all {
		out = append(out, entry{k, v})
	}
	return out
}

// keys returns the keys of a list, with a bar behind each.
func keys(all iter.Seq2[string, int]) string {
	s := ""
	for k := range all {
		s += k + "|"
	}
	return s
}

// selectBy returns the entries of m whose keys pass the test, in ascending byte order.
func selectBy(m map[string]int, test func(k string) bool) []entry {
	var out []entry
	for _, k := range slices.Sorted(maps.Keys(m)) {
		if test(k) {
			out = append(out, entry{k, m[k]})
		}
	}
	return out
}

// divisionsBy is the definition of all divisions of s, in their order.
func divisionsBy(m map[string]int, s string) [][]string {
	if s == "" {
		return [][]string{nil}
	}
	var out [][]string
	for end := len(s); end > 0; end-- {
		if _, ok := m[s[:end]]; !ok {
			continue
		}
		for _, d := range divisionsBy(m, s[end:]) {
			out = append(out, append([]string{s[:end]}, d...))
		}
	}
	return out
}

// same compares a trie with a map of its keys; strings are what to look for.
func same(t *testing.T, x *Trie[int], m map[string]int, strs ...string) {
	t.Helper()
	if x.Len() != len(m) {
		t.Fatalf("%v: Len = %d", m, x.Len())
	}
	for _, s := range strs {
		v, ok := x.Get(s)
		if want, there := m[s]; v != want || ok != there {
			t.Fatalf("%v: Get(%q) = %d, %v", m, s, v, ok)
		}
		prefixes := selectBy(m, func(k string) bool { return strings.HasPrefix(s, k) })
		if got := list(x.Prefixes(s)); !slices.Equal(got, prefixes) {
			t.Fatalf("%v: Prefixes(%q) = %v", m, s, got)
		}
		longest := entry{}
		if len(prefixes) > 0 {
			longest = prefixes[len(prefixes)-1]
		}
		if k, v, ok := x.Longest(s); k != longest.key || v != longest.value || ok != (len(prefixes) > 0) {
			t.Fatalf("%v: Longest(%q) = %q, %d, %v", m, s, k, v, ok)
		}
		all := selectBy(m, func(k string) bool { return strings.HasPrefix(k, s) })
		if got := list(x.All(s)); !slices.Equal(got, all) {
			t.Fatalf("%v: All(%q) = %v", m, s, got)
		}
		divisions := divisionsBy(m, s)
		if got := x.Segment(s); fmt.Sprintf("%q", got) != fmt.Sprintf("%q", divisions[:min(len(divisions), 256)]) {
			t.Fatalf("%v: Segment(%q) = %q", m, s, got)
		}
	}
}

// shape returns the nodes of a tree as a text.
func shape[V any](n *node[V]) string {
	s := fmt.Sprintf("%q %v %v", n.path, n.isKey, n.value)
	for _, kid := range n.kids {
		s += "(" + shape(kid) + ")"
	}
	return s
}

// random returns a string of at most n of the given bytes.
func random(source *rand.Rand, n int, bytes string) string {
	s := ""
	for range source.Intn(n + 1) {
		i := source.Intn(len(bytes))
		s += bytes[i : i+1]
	}
	return s
}
