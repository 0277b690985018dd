package algebra

import (
	"math/rand"
	"strings"
	"testing"

	"pentaglot/api"
	"pentaglot/transducer"
)

func TestPairs(t *testing.T) { // P4.1
	for _, c := range []struct {
		name string
		list [][2]string
		want api.Transducer
	}{
		{"the example", [][2]string{{"ab", "c"}, {"a", ""}}, api.Transducer{States: 4, Finals: []int{2, 3}, Arcs: []api.Arc{{From: 0, To: 1, In: 'a', Out: 'c'}, {From: 0, To: 3, In: 'a'}, {From: 1, To: 2, In: 'b'}}}},
		{"an empty list", nil, api.Transducer{States: 1}},
		{"the empty pair", [][2]string{{"", ""}}, api.Transducer{States: 1, Finals: []int{0}}},
		{"a longer output", [][2]string{{"a", "bcd"}}, api.Transducer{States: 4, Finals: []int{3}, Arcs: []api.Arc{{From: 0, To: 1, In: 'a', Out: 'b'}, {From: 1, To: 2, Out: 'c'}, {From: 2, To: 3, Out: 'd'}}}},
		{"no input", [][2]string{{"", "a"}}, api.Transducer{States: 2, Finals: []int{1}, Arcs: []api.Arc{{From: 0, To: 1, Out: 'a'}}}},
		{"a shared beginning", [][2]string{{"abc", "abd"}, {"abe", "abf"}, {"ab", "ab"}}, api.Transducer{States: 5, Finals: []int{2, 3, 4}, Arcs: []api.Arc{{From: 0, To: 1, In: 'a', Out: 'a'}, {From: 1, To: 2, In: 'b', Out: 'b'}, {From: 2, To: 3, In: 'c', Out: 'd'}, {From: 2, To: 4, In: 'e', Out: 'f'}}}},
		{"a beginning shared by one side only", [][2]string{{"ab", "xy"}, {"ab", "zy"}}, api.Transducer{States: 5, Finals: []int{2, 4}, Arcs: []api.Arc{{From: 0, To: 1, In: 'a', Out: 'x'}, {From: 0, To: 3, In: 'a', Out: 'z'}, {From: 1, To: 2, In: 'b', Out: 'y'}, {From: 3, To: 4, In: 'b', Out: 'y'}}}},
		{"the same pair twice", [][2]string{{"a", "b"}, {"a", "b"}}, api.Transducer{States: 2, Finals: []int{1}, Arcs: []api.Arc{{From: 0, To: 1, In: 'a', Out: 'b'}}}},
		{"final states in another order", [][2]string{{"ab", "ab"}, {"", ""}, {"a", "a"}}, api.Transducer{States: 3, Finals: []int{0, 1, 2}, Arcs: []api.Arc{{From: 0, To: 1, In: 'a', Out: 'a'}, {From: 1, To: 2, In: 'b', Out: 'b'}}}},
		{"runes, not bytes", [][2]string{{"é\U00010000", "\uFFFD"}}, api.Transducer{States: 3, Finals: []int{2}, Arcs: []api.Arc{{From: 0, To: 1, In: 'é', Out: '\uFFFD'}, {From: 1, To: 2, In: '\U00010000'}}}},
	} {
		if got, e := Pairs(c.list...); e != api.OK || !equal(got, c.want) {
			t.Errorf("%s: %v, %d, not %v", c.name, got, e, c.want)
		}
	}
}

func TestPairsModel(t *testing.T) { // P4.1, P4.3
	r := rand.New(rand.NewSource(6))
	words := strs(3)
	for range 500 {
		var list [][2]string
		given := map[[2]string]bool{}
		for range r.Intn(6) {
			p := [2]string{words[r.Intn(len(words))], words[r.Intn(len(words))]}
			list = append(list, p)
			given[p] = true
		}
		got, e := Pairs(list...)
		if want, we := result(rawPairs(list...)); e != we || !equal(got, want) {
			t.Fatalf("Pairs(%q) = %v, %d, not %v", list, got, e, want)
		}
		for _, x := range strs(4) {
			for _, y := range strs(4) {
				if transducer.Relates(got, x, y) != given[[2]string{x, y}] {
					t.Fatalf("Pairs(%q) relates %q to %q otherwise", list, x, y)
				}
			}
		}
	}
}

func TestWords(t *testing.T) { // P4.1
	for _, list := range [][]string{nil, {""}, {"x", "", "x"}, {"ab", "ac", "b", "é"}} {
		var pairs [][2]string
		for _, w := range list {
			pairs = append(pairs, [2]string{w, w})
		}
		got, e := Words(list...)
		if want, we := result(rawPairs(pairs...)); e != we || e != api.OK || !equal(got, want) {
			t.Errorf("Words(%q) = %v, %d, not %v", list, got, e, want)
		}
		for _, w := range list {
			if !transducer.Relates(got, w, w) || transducer.Relates(got, w, w+"x") {
				t.Errorf("Words(%q) and %q", list, w)
			}
		}
	}
}

func TestPairsErrors(t *testing.T) { // P4.1, P1
	wide := func(n int) []string {
		var out []string
		for i := range n {
			out = append(out, string(rune(0x1000+i)))
		}
		return out
	}
	for name, c := range map[string]struct {
		f      func() (api.Transducer, api.Errno)
		want   api.Errno
		states int
	}{
		"a wrong byte in the input":             {func() (api.Transducer, api.Errno) { return Pairs([2]string{"\xff", ""}) }, api.ErrArgument, 0},
		"a wrong byte in the output":            {func() (api.Transducer, api.Errno) { return Pairs([2]string{"", "\xff"}) }, api.ErrArgument, 0},
		"the rune 0 in the input":               {func() (api.Transducer, api.Errno) { return Pairs([2]string{"a\x00b", ""}) }, api.ErrArgument, 0},
		"the rune 0 in the output":              {func() (api.Transducer, api.Errno) { return Pairs([2]string{"", "\x00"}) }, api.ErrArgument, 0},
		"a surrogate":                           {func() (api.Transducer, api.Errno) { return Pairs([2]string{"\xed\xa0\x80", "a"}) }, api.ErrArgument, 0},
		"a wrong pair at the end":               {func() (api.Transducer, api.Errno) { return Pairs([2]string{"a", "b"}, [2]string{"a", "\xff"}) }, api.ErrArgument, 0},
		"a wrong pair after one that is large":  {func() (api.Transducer, api.Errno) { return Pairs([2]string{as(600), ""}, [2]string{"\xff", ""}) }, api.ErrArgument, 0},
		"a wrong word":                          {func() (api.Transducer, api.Errno) { return Words("a", "b\xff") }, api.ErrArgument, 0},
		"a word with the rune 0":                {func() (api.Transducer, api.Errno) { return Words("a\x00") }, api.ErrArgument, 0},
		"512 states":                            {func() (api.Transducer, api.Errno) { return Words(as(511)) }, api.OK, 512},
		"513 states":                            {func() (api.Transducer, api.Errno) { return Words(as(512)) }, api.ErrTooLarge, 0},
		"512 states by the output":              {func() (api.Transducer, api.Errno) { return Pairs([2]string{"", as(511)}) }, api.OK, 512},
		"513 states by the output":              {func() (api.Transducer, api.Errno) { return Pairs([2]string{"", as(512)}) }, api.ErrTooLarge, 0},
		"512 states side by side":               {func() (api.Transducer, api.Errno) { return Words(wide(511)...) }, api.OK, 512},
		"513 states side by side":               {func() (api.Transducer, api.Errno) { return Words(wide(512)...) }, api.ErrTooLarge, 0},
		"512 states, then words that are there": {func() (api.Transducer, api.Errno) { return Words(as(511), as(511), as(7), "") }, api.OK, 512},
		"512 states, then one more":             {func() (api.Transducer, api.Errno) { return Words(as(511), "b") }, api.ErrTooLarge, 0},
		"a very long word":                      {func() (api.Transducer, api.Errno) { return Words(strings.Repeat("ab", 1000000)) }, api.ErrTooLarge, 0},
	} {
		got, e := c.f()
		if e != c.want || got.States != c.states || e != api.OK && !equal(got, api.Transducer{}) {
			t.Error(name, got.States, e)
		}
	}
}
