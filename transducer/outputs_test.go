package transducer

import (
	"math"
	"math/rand"
	"slices"
	"strings"
	"testing"

	"pentaglot/api"
)

func TestOutputs(t *testing.T) { // P3.3
	further := example()
	further.Arcs = append(further.Arcs, api.Arc{From: 1, To: 1, Out: 'c'})
	empty := api.Transducer{States: 1}
	// Two paths write the same; one is longer, and ends in a cycle of epsilon arcs.
	same := api.Transducer{States: 4, Finals: []int{1, 3}, Arcs: []api.Arc{{From: 0, To: 1, In: 'a', Out: 'b'}, {From: 0, To: 2}, {From: 2, To: 3, In: 'a', Out: 'b'}, {From: 3, To: 2}, {From: 2, To: 3}}}
	order := loops(api.Arc{In: 'a', Out: '\U00010000'}, api.Arc{In: 'a', Out: '\uFFFD'}, api.Arc{In: 'a', Out: 'z'}, api.Arc{In: 'a'}, api.Arc{In: 'a', Out: 'é'})
	for _, c := range []struct {
		t    api.Transducer
		x    string
		n    int
		want []string
	}{
		{example(), "aa", 3, []string{"b"}},
		{example(), "a", 1, []string{"b"}},
		{example(), "a", 0, nil},
		{example(), "", 3, nil},
		{example(), "b", 3, nil},
		{example(), "ab", 3, nil},
		{further, "a", 3, []string{"b", "bc", "bcc"}},
		{further, "aaa", 2, []string{"b", "bc"}},
		{empty, "", 4096, nil},
		{loops(), "", 0, []string{""}},
		{loops(), "", 4096, []string{""}},
		{loops(api.Arc{}), "", 4096, []string{""}},
		{same, "a", 4, []string{"b"}},
		{same, "", 4, []string{""}},
		{order, "a", 1, []string{"", "z", "é", "\uFFFD", "\U00010000"}},
		{loops(api.Arc{Out: 'a'}, api.Arc{Out: 'b'}), "", 2, []string{"", "a", "b", "aa", "ab", "ba", "bb"}},
		{loops(api.Arc{In: '\uFFFD', Out: 'a'}), "\uFFFD", 2, []string{"a"}},
	} {
		got, e := Outputs(c.t, c.x, c.n)
		if e != api.OK || !slices.Equal(got, c.want) {
			t.Errorf("Outputs(%v, %q, %d) = %q, %d, not %q", c.t, c.x, c.n, got, e, c.want)
		}
	}
}

func TestOutputsModel(t *testing.T) { // P3.3
	r := rand.New(rand.NewSource(4))
	for range 1500 {
		x := random(r)
		for _, in := range strs(2) {
			n := r.Intn(5)
			var want []string
			for _, out := range strs(n) {
				if relates(x, in, out) {
					want = append(want, out)
				}
			}
			got, e := Outputs(x, in, n)
			if e != api.OK || !slices.Equal(got, want) || !slices.IsSortedFunc(got, shortlex) {
				t.Fatalf("Outputs(%v, %q, %d) = %q, %d, not %q", x, in, n, got, e, want)
			}
		}
	}
}

func TestOutputsErrors(t *testing.T) { // P3.3, P1: the errors of Outputs
	many := loops(api.Arc{Out: 'a'}, api.Arc{Out: 'b'})
	for _, c := range []struct {
		t    api.Transducer
		x    string
		n    int
		want api.Errno
	}{
		{example(), "a", 0, api.OK},
		{example(), "a", 4096, api.OK},
		{example(), "a", -1, api.ErrArgument},
		{example(), "a", 4097, api.ErrArgument},
		{example(), "a", math.MinInt, api.ErrArgument},
		{example(), "a", math.MaxInt, api.ErrArgument},
		{example(), "\xff", 3, api.ErrArgument},
		{example(), "a\x00", 3, api.ErrArgument},
		{api.Transducer{}, "a", 3, api.ErrArgument},
		{many, "", 7, api.OK},
		{many, "", 8, api.ErrTooLarge},
		{many, "", 4096, api.ErrTooLarge},
		{many, "\xff", 4096, api.ErrArgument},
		{many, "", 4097, api.ErrArgument},
		{many, "a", 4096, api.OK},
	} {
		if got, e := Outputs(c.t, c.x, c.n); e != c.want || e != api.OK && len(got) != 0 {
			t.Errorf("Outputs(%v, %q, %d) = %d outputs, %d", c.t, c.x, c.n, len(got), e)
		}
	}
}

func TestOutputsLimit(t *testing.T) { // P3.3: 256 and 257 outputs
	loop := loops(api.Arc{Out: 'a'})
	if got, e := Outputs(loop, "", 255); e != api.OK || len(got) != 256 || got[255] != strings.Repeat("a", 255) {
		t.Error(len(got), e)
	}
	if got, e := Outputs(loop, "", 256); e != api.ErrTooLarge || len(got) != 0 {
		t.Error(len(got), e)
	}
	// n arcs with different outputs and, for each, one more with the same output.
	fan := func(n int) api.Transducer {
		x := api.Transducer{States: 3, Finals: []int{1, 2}}
		for i := range n {
			x.Arcs = append(x.Arcs, api.Arc{From: 0, To: 2, In: 'a', Out: rune(1000 - i)}, api.Arc{From: 0, To: 1, In: 'a', Out: rune(1000 - i)})
		}
		return x
	}
	if got, e := Outputs(fan(256), "a", 1); e != api.OK || len(got) != 256 || !slices.IsSortedFunc(got, shortlex) {
		t.Error(len(got), e)
	}
	if got, e := Outputs(fan(257), "a", 1); e != api.ErrTooLarge || len(got) != 0 {
		t.Error(len(got), e)
	}
	// Beginnings that cannot be completed, or only beyond n, are no outputs.
	dead := fan(257)
	dead.Finals = []int{0}
	if got, e := Outputs(dead, "a", 4096); e != api.OK || len(got) != 0 {
		t.Error(len(got), e)
	}
	far := fan(300)
	far.States, far.Finals = 5, []int{4}
	far.Arcs = append(far.Arcs, api.Arc{From: 1, To: 3, Out: 'x'}, api.Arc{From: 3, To: 4, Out: 'x'}, api.Arc{From: 0, To: 4, In: 'a', Out: 'y'})
	if got, e := Outputs(far, "a", 2); e != api.OK || !slices.Equal(got, []string{"y"}) {
		t.Error(got, e)
	}
	if got, e := Outputs(far, "a", 3); e != api.ErrTooLarge || len(got) != 0 {
		t.Error(got, e)
	}
}

func TestOutputsLong(t *testing.T) { // P3.3: long strings
	copies := loops(api.Arc{In: 'a', Out: 'a'}, api.Arc{In: 'b', Out: 'b'})
	long := strings.Repeat("ab", 2048)
	if got, e := Outputs(copies, long, 4096); e != api.OK || !slices.Equal(got, []string{long}) {
		t.Error(len(got), e)
	}
	if got, e := Outputs(copies, long, 4095); e != api.OK || len(got) != 0 {
		t.Error(len(got), e)
	}
	if got, e := Outputs(copies, strings.Repeat("b", 50000), 4096); e != api.OK || len(got) != 0 {
		t.Error(len(got), e)
	}
	drop := loops(api.Arc{In: 'a'})
	if got, e := Outputs(drop, strings.Repeat("a", 50000), 4096); e != api.OK || !slices.Equal(got, []string{""}) {
		t.Error(len(got), e)
	}
	eight := api.Transducer{States: 9, Finals: []int{8}}
	for s := range 8 {
		eight.Arcs = append(eight.Arcs, api.Arc{From: s, To: s + 1, In: 'a', Out: 'a'}, api.Arc{From: s, To: s + 1, In: 'a', Out: 'b'})
	}
	if got, e := Outputs(eight, "aaaaaaaa", 8); e != api.OK || len(got) != 256 || got[255] != "bbbbbbbb" {
		t.Error(len(got), e)
	}
}
