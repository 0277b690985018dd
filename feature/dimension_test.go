package feature

import (
	"slices"
	"strings"
	"testing"

	"pentaglot/api"
)

// dim returns the dimension of a text such as "number sg pl".
func dim(text string) api.Dimension {
	w := strings.Fields(text)
	return api.Dimension{Name: w[0], Values: w[1:]}
}

// dims returns dimensions of such texts.
func dims(list ...string) []api.Dimension {
	var out []api.Dimension
	for _, s := range list {
		out = append(out, dim(s))
	}
	return out
}

// texts returns the texts of the records that are yielded.
func texts(d []api.Dimension) []string {
	var out []string
	for r := range All(d) {
		out = append(out, Text(r))
	}
	return out
}

func TestAll(t *testing.T) { // P2.6
	for _, c := range []struct {
		name string
		dims []api.Dimension
		want []string
	}{
		{"example", dims("number sg pl", "case nom acc"), []string{"case=nom number=sg", "case=acc number=sg", "case=nom number=pl", "case=acc number=pl"}},
		{"the other way round", dims("case nom acc", "number sg pl"), []string{"case=nom number=sg", "case=nom number=pl", "case=acc number=sg", "case=acc number=pl"}},
		{"none", nil, []string{""}},
		{"values in their order", dims("a z a 5 -"), []string{"a=z", "a=a", "a=5", "a=-"}},
		{"three", dims("c 1", "a 1 2", "b 2 1"), []string{"a=1 b=2 c=1", "a=1 b=1 c=1", "a=2 b=2 c=1", "a=2 b=1 c=1"}},
		{"a value of two dimensions", dims("a 1", "b 1"), []string{"a=1 b=1"}},
		{"a value like a name", dims("a a b", "b a"), []string{"a=a b=a", "a=b b=a"}},
	} {
		if got := texts(c.dims); !slices.Equal(got, c.want) {
			t.Errorf("%s: All yields %q, want %q", c.name, got, c.want)
		}
	}
}

func TestAllOfInvalidDimensions(t *testing.T) { // P2.6
	for _, c := range []struct {
		name  string
		dims  []api.Dimension
		count int
	}{
		{"4 dimensions", dims("a 1", "b 1", "c 1", "d 1"), 1},
		{"5 dimensions", dims("a 1", "b 1", "c 1", "d 1", "e 1"), 0},
		{"8 values", dims("a 1 2 3 4 5 6 7 8"), 8},
		{"9 values", dims("a 1 2 3 4 5 6 7 8 9"), 0},
		{"4 dimensions of 8 values", dims("a 1 2 3 4 5 6 7 8", "b 1 2 3 4 5 6 7 8", "c 1 2 3 4 5 6 7 8", "d 1 2 3 4 5 6 7 8"), 4096},
		{"no values", dims("a"), 0},
		{"no values in the second", dims("a 1", "b"), 0},
		{"a name twice", dims("a 1", "a 2"), 0},
		{"a name twice, not side by side", dims("a 1", "b 1", "a 2"), 0},
		{"a value twice", dims("a x x"), 0},
		{"a value twice in the second", dims("a 1", "b x y x"), 0},
		{"empty name", []api.Dimension{{Name: "", Values: []string{"1"}}}, 0},
		{"empty value", []api.Dimension{{Name: "a", Values: []string{""}}}, 0},
		{"wrong name", dims("A 1"), 0},
		{"wrong value", dims("a X"), 0},
		{"wrong last value", dims("a x y", "b x é"), 0},
		{"wrong byte", dims("a \xff"), 0},
	} {
		if got := texts(c.dims); len(got) != c.count {
			t.Errorf("%s: All yields %d records, want %d", c.name, len(got), c.count)
		}
	}
}

func TestAllStops(t *testing.T) { // P2.6
	d := dims("a 1 2 3", "b 1 2 3", "c 1 2 3")
	for limit := 1; limit <= 27; limit++ {
		calls := 0
		All(d)(func([]api.Feature) bool {
			calls++
			return calls < limit
		})
		if calls != limit {
			t.Errorf("yield was called %d times after it returned false", calls-limit)
		}
	}
}

func TestAllRecordsAreNew(t *testing.T) { // P2.6
	d := dims("b 1 2", "a 1 2")
	var kept [][]api.Feature
	for r := range All(d) {
		if !Valid(r) || len(r) != 2 {
			t.Errorf("%q is not a record of both dimensions", Text(r))
		}
		kept = append(kept, r)
		r[0].Value = "changed"
		_ = append(r, api.Feature{Name: "changed"})
	}
	want := []string{"b=1", "b=1", "b=2", "b=2"}
	for i, r := range kept {
		if got := Text(r[1:]); r[0].Value != "changed" || got != want[i] {
			t.Errorf("record %d was changed to %q", i, Text(r))
		}
	}
	if got := texts(d); !slices.Equal(got, []string{"a=1 b=1", "a=2 b=1", "a=1 b=2", "a=2 b=2"}) {
		t.Errorf("the dimensions were changed: %q", got)
	}
}

func TestAllKeepsNoReference(t *testing.T) { // section Rules of DOC.md
	d := dims("a 1 2")
	all := All(d)
	d[0].Values[0] = "9"
	d[0] = dim("x y")
	for range 2 { // an iterator starts anew with every range over it
		var got []string
		for r := range all {
			got = append(got, Text(r))
		}
		if !slices.Equal(got, []string{"a=1", "a=2"}) {
			t.Errorf("All yields %q", got)
		}
	}
}
