package trie

import (
	"fmt"
	"math/rand"
	"slices"
	"strings"
	"testing"

	"pentaglot/api"
)

func TestEmpty(t *testing.T) { // P12.1
	for name, x := range map[string]*Trie[string]{"New": New[string](), "the zero value": {}} {
		if x.Len() != 0 || x.Delete("") || x.Delete("a") {
			t.Errorf("%s: Len = %d", name, x.Len())
		}
		for _, k := range []string{"", "a", "\xff"} {
			if v, ok := x.Get(k); v != "" || ok {
				t.Errorf("%s: Get(%q) = %q, %v", name, k, v, ok)
			}
			if s, v, ok := x.Longest(k); s != "" || v != "" || ok {
				t.Errorf("%s: Longest(%q) = %q, %q, %v", name, k, s, v, ok)
			}
			for s := range x.Prefixes(k) {
				t.Errorf("%s: Prefixes(%q) yields %q", name, k, s)
			}
			for s := range x.All(k) {
				t.Errorf("%s: All(%q) yields %q", name, k, s)
			}
		}
		if got := x.Segment("a"); len(got) != 0 {
			t.Errorf("%s: Segment = %q", name, got)
		}
		if got := x.Segment(""); len(got) != 1 || len(got[0]) != 0 {
			t.Errorf("%s: Segment of nothing = %q", name, got)
		}
		if !x.Put("", "") || x.Len() != 1 {
			t.Errorf("%s: a key cannot be put", name)
		}
	}
	if New[int]() == New[int]() {
		t.Error("two tries are one")
	}
}

func TestPut(t *testing.T) { // P12.1
	x := New[int]()
	for i, c := range []struct {
		key   string
		value int
		isNew bool
		size  int
	}{
		{"abc", 1, true, 1},
		{"abc", 2, false, 1},
		{"abd", 3, true, 2},      // shares a beginning
		{"ab", 4, true, 3},       // the beginning itself
		{"ab", 0, false, 3},      // the zero value
		{"a", 0, true, 4},        // a new key with the zero value
		{"a", 5, false, 4},       // which is there
		{"abcdef", 6, true, 5},   // goes on behind a key
		{"", 0, true, 6},         // the empty key
		{"", 7, false, 6},        // which is there
		{"\x00", 8, true, 7},     // the first byte
		{"\xff\xfe", 9, true, 8}, // the last byte
		{"é", 10, true, 9},       // two bytes
		{"\xc3", 11, true, 10},   // the first of them
		{"b", 12, true, 11},      // shares nothing
	} {
		if got := x.Put(c.key, c.value); got != c.isNew || x.Len() != c.size {
			t.Errorf("%d: Put(%q) = %v, Len = %d", i, c.key, got, x.Len())
		}
		if v, ok := x.Get(c.key); v != c.value || !ok {
			t.Errorf("%d: Get(%q) = %d, %v", i, c.key, v, ok)
		}
	}
	same(t, x, map[string]int{"abc": 2, "abd": 3, "ab": 0, "a": 5, "abcdef": 6, "": 7, "\x00": 8, "\xff\xfe": 9, "é": 10, "\xc3": 11, "b": 12}, "", "a", "ab", "abc", "abcd", "abcde", "abcdef", "abcdefg", "abx", "x", "\x00", "\x00\x00", "\xff", "\xff\xfe", "\xff\xff", "\xc3", "é", "è", "aab", "abcb")
}

func TestGet(t *testing.T) { // P12.1
	x := with("abcd", "abef", "\x80\x81")
	for _, k := range []string{"", "a", "ab", "abc", "abcde", "abe", "abee", "b", "xbcd", "axcd", "abcx", "\x80", "\x80\x80", "\x81\x81", "\x80\x81\x81"} {
		if v, ok := x.Get(k); v != 0 || ok {
			t.Errorf("Get(%q) = %d, %v", k, v, ok)
		}
	}
	if v, ok := x.Get("\x80\x81"); v != 2 || !ok {
		t.Errorf("Get = %d, %v", v, ok)
	}
}

func TestDelete(t *testing.T) { // P12.1
	for _, c := range []struct {
		name string
		keys string // put in this order
		gone string
		left string
	}{
		{"the only key", "abc", "abc", ""},
		{"a prefix of a key that is not a key", "abc", "ab", "abc|"},
		{"the beginning of two keys that is not a key", "abc abd", "ab", "abc|abd|"},
		{"the empty key, which is not there", "abc abd", "", "abc|abd|"},
		{"a key behind another one", "ab abc", "abc", "ab|"},
		{"a key before another one", "ab abc", "ab", "abc|"},
		{"a key before two others", "ab abc abd", "ab", "abc|abd|"},
		{"one of two keys", "abc abd", "abc", "abd|"},
		{"one of two keys behind a key", "ab abc abd", "abd", "ab|abc|"},
		{"one of three keys", "aa ab ac", "ab", "aa|ac|"},
		{"a string behind a key", "ab", "abc", "ab|"},
		{"another string", "ab", "ac", "ab|"},
		{"bytes from 128 on", "\xff\x80 \xff\x81", "\xff\x80", "\xff\x81|"},
	} {
		x := with(strings.Fields(c.keys)...)
		size := x.Len()
		there := strings.Count(c.left, "|") < size
		if got := x.Delete(c.gone); got != there || keys(x.All("")) != c.left || x.Len() != strings.Count(c.left, "|") {
			t.Errorf("%s: %v, %q, Len = %d", c.name, got, keys(x.All("")), x.Len())
		}
		if v, ok := x.Get(c.gone); v != 0 || ok {
			t.Errorf("%s: Get = %d, %v", c.name, v, ok)
		}
		if x.Delete(c.gone) || keys(x.All("")) != c.left {
			t.Errorf("%s: deleted twice", c.name)
		}
		if !there {
			continue
		}
		if !x.Put(c.gone, 77) || x.Len() != size {
			t.Errorf("%s: not new after it was deleted", c.name)
		}
		if v, ok := x.Get(c.gone); v != 77 || !ok {
			t.Errorf("%s: Get = %d, %v after it was put again", c.name, v, ok)
		}
	}
	x := with("", "a")
	if !x.Delete("") || x.Delete("") || keys(x.All("")) != "a|" {
		t.Errorf("the empty key: %q", keys(x.All("")))
	}
	if !x.Put("", 5) || list(x.All(""))[0] != (entry{"", 5}) {
		t.Errorf("the empty key put again: %v", list(x.All("")))
	}
}

func TestLongest(t *testing.T) { // P12.2
	example := with("a", "ab", "abc", "b")
	empty := with("", "ab", "b\xff\xff")
	for _, c := range []struct {
		x     *Trie[int]
		s     string
		key   string
		value int
		ok    bool
	}{
		{example, "abd", "ab", 1, true},
		{example, "abc", "abc", 2, true},
		{example, "abcd", "abc", 2, true},
		{example, "bb", "b", 3, true},
		{example, "c", "", 0, false},
		{example, "", "", 0, false},
		{empty, "", "", 0, true},
		{empty, "a", "", 0, true}, // only the empty key fits
		{empty, "zab", "", 0, true},
		{empty, "abab", "ab", 1, true},
		{empty, "b\xff", "", 0, true},
		{empty, "b\xff\xff\xff", "b\xff\xff", 2, true},
	} {
		if k, v, ok := c.x.Longest(c.s); k != c.key || v != c.value || ok != c.ok {
			t.Errorf("Longest(%q) = %q, %d, %v", c.s, k, v, ok)
		}
	}
}

func TestPrefixes(t *testing.T) { // P12.2
	x := with("a", "ab", "abc", "b", "abcde", "é", "\xc3")
	for _, c := range []struct{ s, want string }{
		{"abd", "a|ab|"},
		{"abcde", "a|ab|abc|abcde|"},
		{"abcd", "a|ab|abc|"},
		{"abcdf", "a|ab|abc|"},
		{"b", "b|"},
		{"c", ""},
		{"", ""},
		{"è", "\xc3|"},
		{"éa", "\xc3|é|"},
	} {
		if got := keys(x.Prefixes(c.s)); got != c.want {
			t.Errorf("Prefixes(%q) = %q", c.s, got)
		}
	}
	x.Put("", 9)
	if got := list(x.Prefixes("ab")); !slices.Equal(got, []entry{{"", 9}, {"a", 0}, {"ab", 1}}) {
		t.Errorf("with the empty key: %v", got)
	}
	if got := list(x.Prefixes("")); !slices.Equal(got, []entry{{"", 9}}) {
		t.Errorf("of nothing: %v", got)
	}
}

func TestAll(t *testing.T) { // P12.3
	x := with("b", "abc", "a", "ab", "\xff", "\x7f", "\x80", "é", "z", "a\x00", "abdef")
	for _, c := range []struct{ prefix, want string }{
		{"", "a|a\x00|ab|abc|abdef|b|z|\x7f|\x80|é|\xff|"},
		{"a", "a|a\x00|ab|abc|abdef|"},
		{"ab", "ab|abc|abdef|"},
		{"abd", "abdef|"}, // the middle between two nodes
		{"abde", "abdef|"},
		{"abdef", "abdef|"},
		{"abdefg", ""},
		{"abdx", ""},
		{"abdxf", ""},
		{"ac", ""},
		{"c", ""},
		{"\xc3", "é|"},
		{"\xff", "\xff|"},
		{"\xff\xff", ""},
	} {
		if got := keys(x.All(c.prefix)); got != c.want {
			t.Errorf("All(%q) = %q", c.prefix, got)
		}
	}
	x.Put("", -1)
	if got := list(x.All("")); got[0] != (entry{"", -1}) || len(got) != x.Len() {
		t.Errorf("with the empty key: %v", got)
	}
	if got := list(x.All("ab")); !slices.Equal(got, []entry{{"ab", 3}, {"abc", 1}, {"abdef", 10}}) {
		t.Errorf("values: %v", got)
	}
}

func TestIterators(t *testing.T) { // section Definitions
	x := with("", "a", "ab", "abc", "abd", "b")
	for name, all := range map[string]func(func(string, int) bool){"All": x.All(""), "Prefixes": x.Prefixes("abcd"), "All of a": x.All("a")} {
		want := list(all)
		for n := 1; n <= len(want); n++ {
			var got []entry
			all(func(k string, v int) bool {
				got = append(got, entry{k, v})
				return len(got) < n
			})
			if !slices.Equal(got, want[:n]) {
				t.Errorf("%s stopped after %d: %v", name, n, got)
			}
		}
		if again := list(all); !slices.Equal(again, want) || len(want) < 4 {
			t.Errorf("%s used again: %v", name, again)
		}
		// An iterator may be used inside of itself.
		for range all {
			if inner := list(all); !slices.Equal(inner, want) {
				t.Errorf("%s inside of itself: %v", name, inner)
			}
		}
	}
	// A modified trie is shown as it is when the iterator is used.
	all := x.All("a")
	x.Put("aa", 9)
	x.Delete("abd")
	if got := keys(all); got != "a|aa|ab|abc|" {
		t.Errorf("All after a change: %q", got)
	}
}

func TestOrderOfSteps(t *testing.T) { // P12.5, P12.1
	source := rand.New(rand.NewSource(1))
	for range 300 {
		x, m := New[int](), map[string]int{}
		var strs []string
		for step := range 60 {
			k := random(source, 5, "ab\x00\xff")
			strs = append(strs, k)
			_, there := m[k]
			if source.Intn(3) == 0 {
				delete(m, k)
				if x.Delete(k) != there {
					t.Fatalf("%v: Delete(%q) = %v", m, k, !there)
				}
			} else {
				m[k] = step % 7
				if x.Put(k, step%7) == there {
					t.Fatalf("%v: Put(%q) = %v", m, k, there)
				}
			}
		}
		strs = append(strs, random(source, 9, "ab\x00\xff"), random(source, 9, "ab"))
		same(t, x, m, strs...)
		// The same keys and values make the same tree, in any order, and no node is left of deleted keys.
		y := New[int]()
		for k, v := range m {
			y.Put(k, v)
		}
		if shape(&x.root) != shape(&y.root) {
			t.Fatalf("%s and %s", shape(&x.root), shape(&y.root))
		}
		for k := range m {
			x.Delete(k)
		}
		if x.Len() != 0 || shape(&x.root) != shape(&New[int]().root) {
			t.Fatalf("all keys deleted: %s", shape(&x.root))
		}
	}
}

func TestOtherValues(t *testing.T) { // P12.1
	x := New[[]string]()
	x.Put("a", []string{"x"})
	x.Put("b", nil)
	if v, ok := x.Get("b"); v != nil || !ok {
		t.Errorf("nil: %v, %v", v, ok)
	}
	if v, ok := x.Get("a"); len(v) != 1 || !ok {
		t.Errorf("a slice: %v, %v", v, ok)
	}
	x.Delete("a")
	if v, ok := x.Get("a"); v != nil || ok {
		t.Errorf("deleted: %v, %v", v, ok)
	}
	y := New[func() int]()
	y.Put("f", func() int { return 5 })
	if f, ok := y.Get("f"); !ok || f() != 5 {
		t.Error("a function")
	}
	z := New[struct{}]()
	if !z.Put("k", struct{}{}) || z.Put("k", struct{}{}) || z.Len() != 1 {
		t.Error("values without content")
	}
}

func TestLongKeys(t *testing.T) { // P1 of DOC.md
	const n = 20000000
	s := strings.Repeat("ab", n/2)
	x := with(s, s[:n-1], "a", s[1:])
	if got := list(x.All("ab")); len(got) != 2 || len(got[0].key) != n-1 || len(got[1].key) != n {
		t.Errorf("All of long keys: %d", len(got))
	}
	if k, v, ok := x.Longest(s + "a"); len(k) != n || v != 0 || !ok {
		t.Errorf("Longest: %d bytes, %d, %v", len(k), v, ok)
	}
	if v, ok := x.Get(s[:n-2]); v != 0 || ok {
		t.Errorf("Get: %d, %v", v, ok)
	}
	if !x.Delete(s) || x.Delete(s) || x.Len() != 3 {
		t.Errorf("Delete: Len = %d", x.Len())
	}
	// Each of many keys is the beginning of the next one.
	y := New[int]()
	for i := range 5000 {
		y.Put(s[:i], i)
	}
	if got := list(y.All("")); len(got) != 5000 || got[4999].value != 4999 {
		t.Errorf("All of 5000 keys: %d", len(got))
	}
	if k, v, ok := y.Longest(s); len(k) != 4999 || v != 4999 || !ok {
		t.Errorf("Longest of 5000 keys: %d bytes, %d, %v", len(k), v, ok)
	}
}

func TestAllBytes(t *testing.T) { // P12.3
	x, m := New[int](), map[string]int{}
	for i := range 256 {
		for _, k := range []string{string([]byte{byte(i * 7)}), string([]byte{'a', byte(i * 11)}), string([]byte{byte(i), 0, 'z'})} {
			x.Put(k, i)
			m[k] = i
		}
	}
	for i := range 256 {
		b := string([]byte{byte(i)})
		same(t, x, m, b, "a"+b, b+"\x00z", b+"\x00", b+"a"+b)
	}
	same(t, x, m, "")
}

func TestLanguages(t *testing.T) { // P12.1 to P12.4
	for _, l := range []api.Language{api.Anta(), api.Bero(), api.Cuni(), api.Delu(), api.Emai()} {
		x, m := New[int](), map[string]int{}
		for i, y := range l.Words.Lexemes {
			x.Put(y.Stem, i)
			m[y.Stem] = i
		}
		for _, y := range l.Words.Lexemes {
			same(t, x, m, y.Stem, y.Stem+y.Stem, fmt.Sprint(y.Stem, "x"), y.Stem[:1])
		}
	}
}
