package paradigm

import (
	"slices"

	"pentaglot/api"
	"pentaglot/feature"
)

// Count returns the number of cells.
func Count(p api.Paradigm) int {
	if !hasCells(p) {
		return 0
	}
	n := 1
	for _, d := range p.Dimensions {
		n *= len(d.Values)
	}
	return n
}

// Cell returns the n-th cell, in the order of feature.All.
func Cell(p api.Paradigm, n int) ([]api.Feature, bool) {
	if n < 0 || n >= Count(p) {
		return nil, false
	}
	return cellAt(p.Dimensions, n), true
}

// Number returns the number of a cell, or -1.
func Number(p api.Paradigm, cell []api.Feature) int {
	if !hasCells(p) {
		return -1
	}
	n := 0
	for _, d := range p.Dimensions {
		value, _ := feature.Get(cell, d.Name)
		k := slices.Index(d.Values, value)
		if k < 0 {
			return -1
		}
		n = n*len(d.Values) + k
	}
	// The list may have more features than the cell with its values, or another order.
	if !slices.Equal(cellAt(p.Dimensions, n), cell) {
		return -1
	}
	return n
}

// Merge returns the features by which affixes are chosen: the unification of both.
func Merge(p api.Paradigm, cell []api.Feature, inherent []api.Feature) ([]api.Feature, bool) {
	if Number(p, cell) < 0 || !feature.Valid(inherent) {
		return nil, false
	}
	return feature.Unify(cell, inherent)
}

// cellAt returns the cell with a number that is in range. It is the only cell of the dimensions with just its values, so that callers who go through all numbers do not pass all cells each time.
func cellAt(dims []api.Dimension, n int) []api.Feature {
	narrow := slices.Clone(dims)
	for i, d := range slices.Backward(dims) {
		k := n % len(d.Values)
		narrow[i].Values = d.Values[k : k+1]
		n /= len(d.Values)
	}
	var out []api.Feature
	for cell := range feature.All(narrow) {
		out = cell
	}
	return out
}

// hasCells reports whether the dimensions are valid: then each has a value.
func hasCells(p api.Paradigm) bool {
	for range feature.All(p.Dimensions) {
		return true
	}
	return false
}
