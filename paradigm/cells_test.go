package paradigm

import (
	"math/rand"
	"slices"
	"testing"

	"pentaglot/api"
	"pentaglot/feature"
)

func TestCount(t *testing.T) { // P10.2
	for _, c := range []struct {
		name string
		dims []api.Dimension
		want int
	}{
		{"example", noun().Dimensions, 4},
		{"no dimensions", nil, 1},
		{"no dimensions, not nil", []api.Dimension{}, 1},
		{"one value", dimensions("case nom"), 1},
		{"two, three and one values", dimensions("a 1 2", "b 1 2 3", "c 1"), 6},
		{"the most cells", largest().Dimensions, 4096},
		{"five dimensions", dimensions("a 1", "b 1", "c 1", "d 1", "e 1"), 0},
		{"nine values", dimensions("a " + values(9)), 0},
		{"no values", dimensions("a 1", "b"), 0},
		{"a value twice", dimensions("a 1 1"), 0},
		{"a name twice", dimensions("a 1", "a 2"), 0},
		{"no name", dimensions(" 1"), 0},
		{"a value that is no name", dimensions("a A"), 0},
	} {
		p := api.Paradigm{Name: "x", Dimensions: c.dims}
		if got := Count(p); got != c.want {
			t.Errorf("%s: Count = %d", c.name, got)
		}
		for _, n := range []int{-1, c.want, c.want + 1, -1 << 63, 1<<63 - 1} {
			if got, ok := Cell(p, n); ok || got != nil {
				t.Errorf("%s: Cell %d = %v, %v", c.name, n, got, ok)
			}
		}
	}
}

func TestCellAndNumber(t *testing.T) { // P10.2, P10.7
	p := noun()
	for n, s := range []string{"case=nom number=sg", "case=acc number=sg", "case=nom number=pl", "case=acc number=pl"} {
		if got, ok := Cell(p, n); !ok || feature.Text(got) != s {
			t.Errorf("Cell %d = %v, %v", n, got, ok)
		}
		if got := Number(p, record(s)); got != n {
			t.Errorf("Number of %s = %d", s, got)
		}
	}
	for _, p := range []api.Paradigm{noun(), largest(), {Name: "x"}, {Name: "x", Dimensions: dimensions("c 1 2 3", "a 1", "b 2 1")}, {Name: "x", Dimensions: dimensions("a b", "b a")}} {
		cells := cellsBy(p)
		if Count(p) != len(cells) {
			t.Errorf("%v: Count = %d, want %d", p.Dimensions, Count(p), len(cells))
		}
		for n, want := range cells {
			if got, ok := Cell(p, n); !ok || !slices.Equal(got, want) {
				t.Fatalf("%v: Cell %d = %v, %v", p.Dimensions, n, got, ok)
			}
			if got := Number(p, want); got != n {
				t.Fatalf("%v: Number of %v = %d", p.Dimensions, want, got)
			}
		}
	}
}

func TestNumberOfOtherLists(t *testing.T) { // P10.2
	for _, s := range []string{
		"", "case=acc", "number=sg", // a feature is missing
		"number=sg case=acc",          // the wrong order
		"case=dat number=sg",          // another value
		"case=sg number=acc",          // the values of each other
		"case=acc gender=f number=sg", // a feature too many
		"case=acc number=sg number=sg", "case=acc case=acc number=sg", "case=acc case=acc", "case=acc number=sg number=pl",
		"case= number=sg", "=acc number=sg", "case=acc Number=sg", "case=acc gender=sg", "a=b",
	} {
		if got := Number(noun(), list(s)); got != -1 {
			t.Errorf("Number of %q = %d", s, got)
		}
	}
	if got := Number(api.Paradigm{Name: "x"}, nil); got != 0 {
		t.Errorf("no dimensions: %d", got)
	}
	if got := Number(api.Paradigm{Name: "x"}, []api.Feature{}); got != 0 {
		t.Errorf("no dimensions, not nil: %d", got)
	}
	if got := Number(api.Paradigm{Name: "x"}, list("a=1")); got != -1 {
		t.Errorf("no dimensions, but a feature: %d", got)
	}
	source := rand.New(rand.NewSource(4))
	found := 0
	for range 20000 {
		p, r := randomParadigm(source), randomList(source)
		want := slices.IndexFunc(cellsBy(p), func(c []api.Feature) bool { return slices.Equal(c, r) })
		if got := Number(p, r); got != want {
			t.Fatalf("Number(%v, %v) = %d, want %d", p.Dimensions, r, got, want)
		}
		if want >= 0 {
			found++
		}
	}
	if found < 100 {
		t.Errorf("only %d lists were cells", found)
	}
}

func TestMerge(t *testing.T) { // P10.3
	for _, c := range []struct {
		name                 string
		cell, inherent, want string
		ok                   bool
	}{
		{"another feature", "case=acc number=pl", "gender=f", "case=acc gender=f number=pl", true},
		{"features around it", "case=acc number=pl", "animate=no zone=1", "animate=no case=acc number=pl zone=1", true},
		{"no inherent features", "case=nom number=sg", "", "case=nom number=sg", true},
		{"a feature again", "case=nom number=sg", "number=sg", "case=nom number=sg", true},
		{"the whole cell again", "case=nom number=sg", "case=nom number=sg", "case=nom number=sg", true},
		{"a feature again and another one", "case=nom number=sg", "case=nom gender=f", "case=nom gender=f number=sg", true},
		{"more features than a valid record has", "case=nom number=sg", "a=1 b=1 c=1 d=1 e=1 f=1 g=1 h=1", "a=1 b=1 c=1 case=nom d=1 e=1 f=1 g=1 h=1 number=sg", true},
		{"a contradiction", "case=nom number=sg", "number=pl", "", false},
		{"a contradiction behind a feature again", "case=nom number=sg", "case=nom number=pl", "", false},
		{"a value of no cell", "case=nom number=sg", "number=du", "", false},
		{"no cell", "", "gender=f", "", false},
		{"a part of a cell", "case=nom", "number=sg", "", false},
		{"a cell in the wrong order", "number=sg case=nom", "gender=f", "", false},
		{"a cell with another value", "case=dat number=sg", "gender=f", "", false},
		{"an inherent record in the wrong order", "case=nom number=sg", "b=1 a=1", "", false},
		{"an inherent record with a name twice", "case=nom number=sg", "a=1 a=1", "", false},
		{"an inherent record with a name that is no name", "case=nom number=sg", "A=1", "", false},
		{"an inherent record with 9 features", "case=nom number=sg", "a=1 b=1 c=1 d=1 e=1 f=1 g=1 h=1 i=1", "", false},
	} {
		got, ok := Merge(noun(), list(c.cell), list(c.inherent))
		if ok != c.ok || !slices.Equal(got, list(c.want)) || !ok && got != nil {
			t.Errorf("%s: %v, %v", c.name, got, ok)
		}
	}
	if got, ok := Merge(api.Paradigm{Name: "x"}, nil, record("gender=f")); !ok || !slices.Equal(got, record("gender=f")) {
		t.Errorf("no dimensions: %v, %v", got, ok)
	}
}
