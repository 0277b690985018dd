// Package matching contains what the layers of context patterns and rules share. It reads strings as letters, tells which letters an item admits, and follows the closed sets of positions of a pattern, as layer 6 defines them.
package matching

import (
	"slices"
	"unicode/utf8"

	"pentaglot/api"
)

const (
	// MaxLetters leaves room for a boundary beside the letters of an alphabet.
	MaxLetters = api.MaxLetters + 1
	// lastBlank is the space: the runes up to it are control characters and the blank.
	lastBlank = 32
)

// Places returns the place of each letter in a by its rune; false if a is not proper: at most MaxLetters letters with distinct, valid runes that are greater than 32.
func Places(a []api.Letter) (map[rune]int, bool) {
	if len(a) > MaxLetters {
		return nil, false
	}
	at := make(map[rune]int, len(a))
	for i, l := range a {
		if l.Rune <= lastBlank || !utf8.ValidRune(l.Rune) {
			return nil, false
		}
		at[l.Rune] = i
	}
	return at, len(at) == len(a)
}

// Read returns the places of the letters of s; false if s is not a string over the letters.
func Read(at map[rune]int, s string) ([]int, bool) {
	// The range below yields U+FFFD for a wrong byte, and U+FFFD may be a letter.
	if !utf8.ValidString(s) {
		return nil, false
	}
	var out []int
	for _, r := range s {
		i, ok := at[r]
		if !ok {
			return nil, false
		}
		out = append(out, i)
	}
	return out, true
}

// IsPattern reports whether p is a pattern over the letters: at most MaxItems items whose Letters are strings over them.
func IsPattern(at map[rune]int, p []api.Item) bool {
	if len(p) > api.MaxItems {
		return false
	}
	return !slices.ContainsFunc(p, func(x api.Item) bool {
		_, ok := Read(at, x.Letters)
		return !ok
	})
}

// Admits reports whether x admits the letter l.
func Admits(x api.Item, l api.Letter) bool {
	named := x.Letters == ""
	for _, r := range x.Letters {
		named = named || r == l.Rune
	}
	plain := named && l.Classes&x.Mask == x.Mask
	return plain != x.Negated
}
