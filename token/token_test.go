package token

import (
	"slices"
	"strings"
	"testing"
)

// isBy is the definition of layer 15.
func isBy(s string) bool {
	for i := range len(s) {
		if s[i] <= 32 {
			return false
		}
	}
	return s != "" && strings.ToValidUTF8(s, "") == s
}

func TestIs(t *testing.T) { // P15.1, P20.1: section Definitions of layer 15
	right := []string{"!", "a", "\x7f", "=", "-", "=a", "א", "𐐀", "\u0085", "\u00a0", "\uFFFD", "\u3000", strings.Repeat("x", 5000)}
	wrong := []string{"", " ", "a b", "a ", " a", "\x00", "a\x00", "a\x1f", "\n", "\ta", "\xff", "a\xc3", "\x80", "\xed\xa0\x80", "\xc0\xa0", strings.Repeat("x", 5000) + " "}
	for _, s := range right {
		if !Is(s) || !isBy(s) {
			t.Errorf("%q is no token", s)
		}
	}
	for _, s := range wrong {
		if Is(s) || isBy(s) {
			t.Errorf("%q is a token", s)
		}
	}
	for a := range 256 {
		for b := range 256 {
			for _, s := range []string{string([]byte{byte(a)}), string([]byte{byte(a), byte(b)}), string([]byte{'x', byte(a), byte(b)})} {
				if Is(s) != isBy(s) {
					t.Errorf("Is(%q): %t", s, Is(s))
				}
			}
		}
	}
}

func TestAll(t *testing.T) { // P15.1, P20.1
	list := []string{"a", "b", "a", "c"}
	if !All(nil) || !All([]string{}) || !All(list) {
		t.Error("a list of tokens")
	}
	for i := range list {
		changed := slices.Clone(list)
		changed[i] = "x y"
		if All(changed) {
			t.Error(changed)
		}
	}
}
