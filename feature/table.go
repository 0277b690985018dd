package feature

import (
	"iter"
	"slices"

	"pentaglot/api"
)

// Table maps records to values: the first entry whose record subsumes the query wins.
type Table[V any] struct {
	entries []entry[V]
}

// entry is an entry of a table.
type entry[V any] struct {
	when  []api.Feature
	value V
}

// New returns an empty table.
func New[V any]() *Table[V] { return &Table[V]{} }

// Add appends an entry.
func (t *Table[V]) Add(when []api.Feature, v V) {
	t.entries = append(t.entries, entry[V]{when: slices.Clone(when), value: v})
}

// Find returns the value of the first matching entry.
func (t *Table[V]) Find(r []api.Feature) (V, bool) {
	for v := range matching(t.entries, r) {
		return v, true
	}
	var none V
	return none, false
}

// Matches iterates over the values of all matching entries, in order.
func (t *Table[V]) Matches(r []api.Feature) iter.Seq[V] {
	// The iterator outlives the call, and the caller may change its record before it iterates.
	return matching(t.entries, slices.Clone(r))
}

// Len returns the number of entries.
func (t *Table[V]) Len() int { return len(t.entries) }

// matching iterates over the values of the entries whose records subsume r. Entries are only ever appended, so that those given here stay as they are.
func matching[V any](entries []entry[V], r []api.Feature) iter.Seq[V] {
	return func(yield func(V) bool) {
		for _, e := range entries {
			if Subsumes(e.when, r) && !yield(e.value) {
				return
			}
		}
	}
}
