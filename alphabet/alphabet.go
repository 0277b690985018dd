// Package alphabet is layer 1: letters, their classes, and collation. See shared/doc/01-alphabet.md.
package alphabet

import (
	"cmp"
	"slices"
	"unicode/utf8"

	"pentaglot/api"
)

// lastBlank is the space: the runes up to it are control characters and the blank, which separate words.
const lastBlank = 32

// Valid reports whether a is an alphabet: 1 to MaxLetters letters with distinct runes that are valid and greater than 32.
func Valid(a []api.Letter) bool {
	if len(a) == 0 || len(a) > api.MaxLetters {
		return false
	}
	for _, l := range a {
		if l.Rune <= lastBlank || !utf8.ValidRune(l.Rune) {
			return false
		}
	}
	return len(positions(a)) == len(a)
}

// Index returns the index of the first letter with the rune r, or -1.
func Index(a []api.Letter, r rune) int {
	if i, ok := positions(a)[r]; ok {
		return i
	}
	return -1
}

// Classes returns the classes of the first letter with the rune r, or 0.
func Classes(a []api.Letter, r rune) uint32 {
	if i := Index(a, r); i >= 0 {
		return a[i].Classes
	}
	return 0
}

// IsWord reports whether s is a word: valid UTF-8, at most MaxWord runes, all of them letters of a.
func IsWord(a []api.Letter, s string) bool {
	// The range below yields U+FFFD for a wrong byte, and U+FFFD may be a letter.
	if !utf8.ValidString(s) || utf8.RuneCountInString(s) > api.MaxWord {
		return false
	}
	at := positions(a)
	for _, r := range s {
		if _, ok := at[r]; !ok {
			return false
		}
	}
	return true
}

// Compare compares two strings by the order of their letters; other runes come after all letters, by code point; a proper prefix first.
func Compare(a []api.Letter, s, t string) int {
	return collation(a)(s, t)
}

// Sort returns the words in collation order; equal ones remain in their order.
func Sort(a []api.Letter, words []string) []string {
	out := slices.Clone(words)
	slices.SortStableFunc(out, collation(a))
	return out
}

// Select returns the runes of the letters that have all classes of mask, in order.
func Select(a []api.Letter, mask uint32) []rune {
	var out []rune
	for _, l := range a {
		if l.Classes&mask == mask {
			out = append(out, l.Rune)
		}
	}
	return out
}

// Partner returns the first letter whose classes are those of r with the bits of toggle inverted.
func Partner(a []api.Letter, r rune, toggle uint32) (rune, bool) {
	i := Index(a, r)
	if i < 0 {
		return 0, false
	}
	want := a[i].Classes ^ toggle
	for _, l := range a {
		if l.Classes == want {
			return l.Rune, true
		}
	}
	return 0, false
}

// Words returns all strings of exactly n letters, in collation order; none if there would be more than MaxOutputs.
func Words(a []api.Letter, n int) []string {
	if !Valid(a) || n < 0 || n > api.MaxWord {
		return nil
	}
	out := []string{""}
	for range n {
		// The lists never become shorter again, so that a list that is too long decides.
		if len(out)*len(a) > api.MaxOutputs {
			return nil
		}
		out = lengthen(out, a)
	}
	return out
}

// lengthen returns each of the words with each of the letters behind it.
func lengthen(words []string, a []api.Letter) []string {
	out := make([]string, 0, len(words)*len(a))
	for _, w := range words {
		for _, l := range a {
			out = append(out, w+string(l.Rune))
		}
	}
	return out
}

// positions returns the index of the first letter with each rune.
func positions(a []api.Letter) map[rune]int {
	at := make(map[rune]int, len(a))
	for i, l := range a {
		if _, ok := at[l.Rune]; !ok {
			at[l.Rune] = i
		}
	}
	return at
}

// collation returns the comparison of strings for the order of a.
func collation(a []api.Letter) func(s, t string) int {
	at := positions(a)
	return func(s, t string) int {
		for _, r := range s {
			if t == "" {
				return 1
			}
			other, size := utf8.DecodeRuneInString(t)
			if r != other {
				return compareRunes(at, r, other)
			}
			t = t[size:]
		}
		return cmp.Compare(0, len(t))
	}
}

// compareRunes compares two different runes: letters by their indices, then all other runes by code point.
func compareRunes(at map[rune]int, r, other rune) int {
	i, isLetter := at[r]
	j, otherIsLetter := at[other]
	switch {
	case isLetter && otherIsLetter:
		return cmp.Compare(i, j)
	case isLetter:
		return -1
	case otherIsLetter:
		return 1
	}
	return cmp.Compare(r, other)
}
