package trie

import (
	"cmp"
	"slices"
	"strings"
)

// node is a node of the tree. A node that is not the root is a key or has at least two kids, so that the depth of the tree is not the length of the keys: the recursion over a tree of few long keys remains shallow.
type node[V any] struct {
	path  string     // the beginning of all keys at the node and below it
	kids  []*node[V] // their paths begin with path, go on with different bytes, and ascend
	isKey bool       // whether path is a key
	value V          // the value of that key
}

// place returns the index of the kid that goes on with the same byte as s, and whether there is one; otherwise the index is where this kid would be. The path of n is not longer than s.
func (n *node[V]) place(s string) (int, bool) {
	at := len(n.path)
	if at == len(s) {
		return 0, false
	}
	return slices.BinarySearchFunc(n.kids, s[at], func(kid *node[V], b byte) int { return cmp.Compare(kid.path[at], b) })
}

// next returns the kid whose path is a prefix of s, or nil. The path of n is a prefix of s.
func (n *node[V]) next(s string) *node[V] {
	i, ok := n.place(s)
	if !ok || !strings.HasPrefix(s[len(n.path):], n.kids[i].path[len(n.path):]) {
		return nil
	}
	return n.kids[i]
}

// top returns the highest node at or below n whose path begins with prefix, or nil. The path of n is a prefix of prefix.
func (n *node[V]) top(prefix string) *node[V] {
	for len(n.path) < len(prefix) {
		i, ok := n.place(prefix)
		if !ok {
			return nil
		}
		n = n.kids[i]
	}
	// The bytes on the way that were not compared are all in this path.
	if !strings.HasPrefix(n.path, prefix) {
		return nil
	}
	return n
}

// grow returns the node at or below n whose path is key, which it adds if there is none. The path of n is a prefix of key.
func (n *node[V]) grow(key string) *node[V] {
	for len(n.path) < len(key) {
		at := len(n.path)
		i, ok := n.place(key)
		if !ok {
			n.kids = slices.Insert(n.kids, i, &node[V]{path: key})
		} else if kid := n.kids[i]; !strings.HasPrefix(key[at:], kid.path[at:]) {
			end := at + sharedLength(key[at:], kid.path[at:])
			n.kids[i] = &node[V]{path: key[:end], kids: []*node[V]{kid}}
		}
		n = n.kids[i]
	}
	return n
}

// isNeedless reports whether the tree need not have n, unless it is the root.
func (n *node[V]) isNeedless() bool { return !n.isKey && len(n.kids) < 2 }

// bypass replaces a kid by its own kids, of which there is at most one.
func (n *node[V]) bypass(kid *node[V]) {
	i, _ := n.place(kid.path)
	n.kids = slices.Concat(n.kids[:i], kid.kids, n.kids[i+1:])
}

// sharedLength returns the length of the longest common prefix.
func sharedLength(s, t string) int {
	n := 0
	for n < min(len(s), len(t)) && s[n] == t[n] {
		n++
	}
	return n
}
