// Package token contains what the layers share whose data consist of tokens.
package token

import (
	"slices"
	"strings"
	"unicode/utf8"
)

// Is reports whether s is a token: a nonempty string of valid UTF-8 without bytes up to 32.
func Is(s string) bool {
	isBlank := func(r rune) bool { return r <= ' ' }
	return s != "" && utf8.ValidString(s) && !strings.ContainsFunc(s, isBlank)
}

// All reports whether all strings of a list are tokens.
func All(list []string) bool {
	isWrong := func(s string) bool { return !Is(s) }
	return !slices.ContainsFunc(list, isWrong)
}
