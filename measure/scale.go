package measure

import (
	"slices"

	"pentaglot/api"
)

const maxSize = 1_000_000

// scale is a list of units, the base unit first.
type scale []api.Unit

// amounts is a list of numbers, one for each unit of a scale.
type amounts []int

// isValid reports whether the units are valid.
func (s scale) isValid() bool {
	if len(s) == 0 || len(s) > api.MaxUnits || s[0].Size != 1 {
		return false
	}
	for i, u := range s {
		hasName := func(v api.Unit) bool { return v.Name == u.Name }
		if u.Name == "" || slices.ContainsFunc(s[:i], hasName) || i > 0 && !isStep(s[i-1].Size, u.Size) {
			return false
		}
	}
	return true
}

// isStep reports whether next can be the Size of the unit behind one of the Size size, which is above 0.
func isStep(size, next int) bool {
	return next > size && next <= maxSize && next%size == 0
}

// divide returns the normal parts of n base units.
func (s scale) divide(n int) amounts {
	// The greatest units come first, and each takes as many as it can of those that are left.
	take := func(u api.Unit) int {
		part := n / u.Size
		n %= u.Size
		return part
	}
	out := make(amounts, len(s))
	for i, u := range slices.Backward(s) {
		out[i] = take(u)
	}
	return out
}

// areFor reports whether there is one part for each unit, and none is negative.
func (a amounts) areFor(s scale) bool {
	isNegative := func(part int) bool { return part < 0 }
	return len(a) == len(s) && !slices.ContainsFunc(a, isNegative)
}

// sum returns the number of base units of valid parts; false if it is above MaxCount.
func (a amounts) sum(s scale) (int, bool) {
	n := 0
	for i, u := range s {
		// The product may not fit an int.
		if a[i] > (api.MaxCount-n)/u.Size {
			return 0, false
		}
		n += a[i] * u.Size
	}
	return n, true
}
