package raw

import (
	"slices"
	"testing"

	"pentaglot/api"
)

// equal compares transducers; nil and empty slices are equivalent.
func equal(a, b api.Transducer) bool {
	return a.States == b.States && a.Start == b.Start && slices.Equal(a.Finals, b.Finals) && slices.Equal(a.Arcs, b.Arcs)
}

// row returns n states in a row, the last of which is final.
func row(n int) api.Transducer {
	t := api.Transducer{States: n, Finals: []int{n - 1}}
	for s := range n - 1 {
		t.Arcs = append(t.Arcs, api.Arc{From: s, To: s + 1})
	}
	return t
}

func TestTrim(t *testing.T) { // P3.5, P4.2: final states in any order, and more states than a transducer has
	x := api.Transducer{States: 5, Start: 3, Finals: []int{2, 1, 2, 0}, Arcs: []api.Arc{{From: 3, To: 2}, {From: 3, To: 1}, {From: 3, To: 2}, {From: 1, To: 4}}}
	want := api.Transducer{States: 3, Start: 2, Finals: []int{0, 1}, Arcs: []api.Arc{{From: 2, To: 0}, {From: 2, To: 1}}}
	if got := Trim(x); !equal(got, want) {
		t.Error(got)
	}
	if got := Trim(api.Transducer{States: 3, Start: 1, Finals: []int{2}, Arcs: []api.Arc{{From: 2, To: 1}}}); !equal(got, api.Transducer{States: 1}) {
		t.Error(got)
	}
	if got := Trim(row(2000)); !equal(got, row(2000)) {
		t.Error(got.States)
	}
}

func TestResult(t *testing.T) { // P4.2: 512 and 513 states, 4096 and 4097 arcs, after trimming
	loops := func(n int) api.Transducer {
		x := api.Transducer{States: 1, Finals: []int{0}}
		for i := range n {
			x.Arcs = append(x.Arcs, api.Arc{In: rune(1 + i)})
		}
		return x
	}
	dead := row(2000)
	dead.Finals = []int{3}
	for _, c := range []struct {
		t      api.Transducer
		states int
		want   api.Errno
	}{
		{row(512), 512, api.OK},
		{row(513), 0, api.ErrTooLarge},
		{dead, 4, api.OK},
		{loops(4096), 1, api.OK},
		{loops(4097), 0, api.ErrTooLarge},
		{api.Transducer{States: 1, Finals: []int{0}, Arcs: make([]api.Arc, 5000)}, 1, api.OK},
	} {
		if got, e := Result(c.t); e != c.want || got.States != c.states || e != api.OK && !equal(got, api.Transducer{}) {
			t.Error(got.States, len(got.Arcs), e)
		}
	}
}

func TestReadable(t *testing.T) { // P3.2, P4.1, P5.2: valid UTF-8 without the rune 0
	for s, want := range map[string]bool{"": true, "a": true, "é\U00010000\uFFFD \x01": true, "\x00": false, "a\x00b": false, "\xff": false, "a\xc3": false, "\xed\xa0\x80": false, "\xc0\x80": false} {
		if Readable(s) != want {
			t.Errorf("%q", s)
		}
	}
}
