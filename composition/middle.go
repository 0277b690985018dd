package composition

import (
	"maps"
	"slices"

	"pentaglot/api"
)

// search looks for the strings that the left side can write and the right side can read.
type search struct {
	left  side
	right side
	near  []rows // by the number of runes that are at least still needed until both can end
}

// branch is a beginning of strings, with the states in which each side can be after it, whatever the other side does.
type branch struct {
	text  string
	left  set
	right set
}

// Middle returns all strings y of at most n runes such that a relates x to y and b relates y to z, in shortlex order.
func Middle(a, b api.Transducer, x, z string, n int) ([]string, api.Errno) {
	if n < 0 || n > api.MaxWord {
		return nil, api.ErrArgument
	}
	left, right, e := sides(a, b, x, z)
	if e != api.OK {
		return nil, e
	}
	s := search{newLeft(left), newRight(right), nearest(left, right, n)}
	var level []branch
	if root := s.root(left.Start, right.Start); s.ends(root, n) {
		level = append(level, root)
	}
	var out []string
	for spare := n - 1; len(level) > 0; spare-- {
		var next []branch
		for _, b := range level {
			if s.ends(b, 0) {
				out = append(out, b.text)
			}
			next = append(next, s.grow(b, spare)...)
			// Every branch is the beginning of at least one result, and branches of one length are those of different ones.
			if len(out)+len(next) > api.MaxOutputs {
				return nil, api.ErrTooLarge
			}
		}
		level = next
	}
	return out, api.OK
}

// nearest returns the levels of left and right for at most n runes.
func nearest(left, right api.Transducer, n int) []rows {
	var out []rows
	for level := range levels(left, right) {
		if len(out) > n {
			break
		}
		out = append(out, level)
	}
	return out
}

// root returns the branch of the empty string.
func (s search) root(left, right int) branch {
	b := branch{"", s.left.none(), s.right.none()}
	b.left.add(left)
	b.right.add(right)
	s.close(b)
	return b
}

// grow returns the branches with one more rune than b that can end after at most n further ones, in the order of these runes.
func (s search) grow(b branch, n int) []branch {
	read := s.right.runes(b.right)
	var out []branch
	for _, r := range slices.Sorted(maps.Keys(s.left.runes(b.left))) {
		if !read[r] {
			continue
		}
		next := branch{b.text + string(r), s.left.image(b.left, r), s.right.image(b.right, r)}
		if s.close(next); s.ends(next, n) {
			out = append(out, next)
		}
	}
	return out
}

// close adds the states that the sides can reach without a rune.
func (s search) close(b branch) {
	s.left.close(b.left)
	s.right.close(b.right)
}

// ends reports whether some string of at most n runes continues b to a result.
func (s search) ends(b branch, n int) bool {
	for _, level := range s.near[:min(n+1, len(s.near))] {
		for l := range b.left.all() {
			if b.right.meets(level[l]) {
				return true
			}
		}
	}
	return false
}
