package feature

import (
	"iter"
	"slices"

	"pentaglot/api"
)

// All iterates over all records with one feature per dimension, the first dimension varying slowest (each record is sorted by name).
func All(dims []api.Dimension) iter.Seq[[]api.Feature] {
	if !validDimensions(dims) {
		return func(yield func([]api.Feature) bool) {}
	}
	// The iterator outlives the call, and the caller may change its list before it iterates.
	own := cloneDimensions(dims)
	return func(yield func([]api.Feature) bool) {
		extend(nil, own, yield)
	}
}

// extend yields the records that have the features of chosen and one for each dimension; it reports whether yield wants more.
func extend(chosen []api.Feature, dims []api.Dimension, yield func([]api.Feature) bool) bool {
	if len(dims) == 0 {
		// chosen is reused for the next record, so that yield gets a copy.
		return yield(slices.SortedFunc(slices.Values(chosen), compareFeatures))
	}
	for _, v := range dims[0].Values {
		if !extend(append(chosen, api.Feature{Name: dims[0].Name, Value: v}), dims[1:], yield) {
			return false
		}
	}
	return true
}

// validDimensions reports whether there are at most MaxDimensions dimensions with distinct names, each with 1 to MaxValues distinct values.
func validDimensions(dims []api.Dimension) bool {
	if len(dims) > api.MaxDimensions {
		return false
	}
	var names []string
	for _, d := range dims {
		if len(d.Values) == 0 || len(d.Values) > api.MaxValues || !distinctNames(d.Values) {
			return false
		}
		names = append(names, d.Name)
	}
	return distinctNames(names)
}

// distinctNames reports whether all strings of the list are names and none occurs twice.
func distinctNames(list []string) bool {
	for i, s := range list {
		if !isName(s) || slices.Contains(list[:i], s) {
			return false
		}
	}
	return true
}

// cloneDimensions returns a copy that shares no memory with dims.
func cloneDimensions(dims []api.Dimension) []api.Dimension {
	out := slices.Clone(dims)
	for i, d := range out {
		out[i].Values = slices.Clone(d.Values)
	}
	return out
}
