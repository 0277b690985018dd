package trie

import (
	"math/rand"
	"reflect"
	"slices"
	"strings"
	"testing"
)

// divided returns the divisions as one text.
func divided(list [][]string) string {
	var out []string
	for _, d := range list {
		out = append(out, strings.Join(d, " "))
	}
	return strings.Join(out, ", ")
}

func TestSegment(t *testing.T) { // P12.4
	for _, c := range []struct{ name, keys, s, want string }{
		{"example", "a ab abc b", "abcb", "abc b"},
		{"example with c", "a ab abc b c", "abcb", "abc b, ab c b, a b c b"},
		{"none", "a ab abc b", "abd", ""},
		{"none at the end", "a ab", "abab\xff", ""},
		{"none at the beginning", "a ab", "bab", ""},
		{"a dead end", "ab abc cd", "abcd", "ab cd"},
		{"the longest key is a dead end", "a aab ab b", "aabx", ""},
		{"one key", "abc", "abc", "abc"},
		{"a prefix of a key", "abc", "ab", ""},
		{"no keys", "", "ab", ""},
		{"the last key is shortened first", "a aa", "aaaa", "aa aa, aa a a, a aa a, a a aa, a a a a"},
		{"bytes", "\xc3 \xa9 é", "é", "é, \xc3 \xa9"},
		{"parts of letters", "\xa9 \xa9\xc3", "é", ""},
		{"three lengths", "a b ab ba aba", "aba", "aba, ab a, a ba, a b a"},
	} {
		if got := divided(with(strings.Fields(c.keys)...).Segment(c.s)); got != c.want {
			t.Errorf("%s: %q", c.name, got)
		}
		// The empty key is in no division.
		if got := divided(with(append(strings.Fields(c.keys), "")...).Segment(c.s)); got != c.want {
			t.Errorf("%s, with the empty key: %q", c.name, got)
		}
	}
	for _, x := range []*Trie[int]{with(), with(""), with("a", "b"), with("", "a")} {
		if got := x.Segment(""); len(got) != 1 || len(got[0]) != 0 {
			t.Errorf("the empty string: %q", got)
		}
	}
	if got := with("").Segment("a"); len(got) != 0 {
		t.Errorf("the empty key only: %q", got)
	}
}

// powers returns a trie with the keys of 1 to n letters a.
func powers(n int) *Trie[int] {
	x := New[int]()
	for i := range n {
		x.Put(strings.Repeat("a", i+1), i)
	}
	return x
}

func TestManyDivisions(t *testing.T) { // P12.4
	for _, c := range []struct {
		name  string
		x     *Trie[int]
		s     string
		count int
	}{
		{"128", powers(8), strings.Repeat("a", 8), 128},
		{"256", powers(9), strings.Repeat("a", 9), 256},
		{"512", powers(10), strings.Repeat("a", 10), 256},
		{"2048", powers(12), strings.Repeat("a", 12), 256},
		{"a Fibonacci number, 233", powers(2), strings.Repeat("a", 12), 233},
		{"a Fibonacci number, 377", powers(2), strings.Repeat("a", 13), 256},
		{"many digits", powers(40), strings.Repeat("a", 2000), 256},
	} {
		got := c.x.Segment(c.s)
		if len(got) != c.count {
			t.Errorf("%s: %d", c.name, len(got))
		}
		if len(c.s) < 15 {
			m := map[string]int{}
			for k, v := range c.x.All("") {
				m[k] = v
			}
			all := divisionsBy(m, c.s)
			if len(c.s) > 0 && !reflect.DeepEqual(got, all[:c.count]) {
				t.Errorf("%s: %q", c.name, got)
			}
		}
		for _, d := range got {
			if strings.Join(d, "") != c.s {
				t.Errorf("%s: %q", c.name, d)
			}
		}
	}
	// 257 divisions: the 256 of nine letters, and the key with all of the string.
	x := powers(9)
	x.Put("b", 0)
	x.Put("aaaaaaaaab", 0)
	got := x.Segment("aaaaaaaaab")
	if len(got) != 256 || len(got[0]) != 1 || !slices.Equal(got[1], []string{"aaaaaaaaa", "b"}) || len(got[255]) != 9 {
		t.Errorf("257: %d, %q", len(got), got[:2])
	}
}

func TestSegmentByDefinition(t *testing.T) { // P12.4
	source := rand.New(rand.NewSource(2))
	several := 0
	for range 10000 {
		x, m := New[int](), map[string]int{}
		bytes := []string{"a\xff", "ab\xff"}[source.Intn(2)]
		for range source.Intn(8) {
			k := random(source, 3, bytes)
			x.Put(k, 1)
			m[k] = 1
		}
		s := random(source, 12, bytes)
		want := divisionsBy(m, s)
		want = want[:min(len(want), 256)]
		if got := x.Segment(s); divided(got) != divided(want) || len(got) != len(want) {
			t.Fatalf("%v: Segment(%q) = %q, want %q", m, s, got, want)
		}
		if len(want) > 2 {
			several++
		}
	}
	if several < 200 {
		t.Errorf("only %d strings had several divisions", several)
	}
}

func TestLongStrings(t *testing.T) { // P1 of DOC.md, P12.4
	n := 3000000
	s := strings.Repeat("a", n)
	if got := with("a").Segment(s); len(got) != 1 || len(got[0]) != n {
		t.Errorf("one division: %d", len(got))
	}
	if got := with("a", "aa", "aaa").Segment(s + "b"); len(got) != 0 {
		t.Errorf("no division: %d", len(got))
	}
	if got := with("a", "aa", "aaa").Segment(s[:n/1000]); len(got) != 256 || len(got[0]) != n/3000 {
		t.Errorf("many divisions: %d", len(got))
	}
	// The only choice is at the beginning.
	if got := with("c", "cc", "a").Segment("cc" + s[:n/10]); len(got) != 2 || len(got[0])+1 != len(got[1]) {
		t.Errorf("two divisions: %d", len(got))
	}
	if got := with(s[:n/10], "a").Segment(s[:n/10]); len(got) != 2 || len(got[0]) != 1 {
		t.Errorf("a long key: %d", len(got))
	}
}

func TestSegmentMemory(t *testing.T) { // section Rules of DOC.md
	x := with("a", "aa")
	got := x.Segment("aaaa")
	want := divided(got)
	for _, d := range got {
		_ = append(d, "x")
	}
	if divided(got) != want {
		t.Errorf("divisions share memory: %q", got)
	}
	got[0][0] = "x"
	if divided(x.Segment("aaaa")) != want || divided(got[1:]) != divided(x.Segment("aaaa")[1:]) {
		t.Errorf("divisions share memory: %q", got)
	}
}
