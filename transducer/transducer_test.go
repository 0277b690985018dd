package transducer

import (
	"math"
	"math/rand"
	"slices"
	"strings"
	"testing"
	"unicode/utf8"

	"pentaglot/api"
)

// example is t of the first example of the chapter.
func example() api.Transducer {
	return api.Transducer{States: 2, Finals: []int{1}, Arcs: []api.Arc{{From: 0, To: 1, In: 'a', Out: 'b'}, {From: 1, To: 1, In: 'a'}}}
}

// invalid returns transducers that are not valid, each for one reason.
func invalid() map[string]api.Transducer {
	out := map[string]api.Transducer{
		"zero value":              {},
		"negative states":         {States: -1},
		"least number of states":  {States: math.MinInt},
		"513 states":              {States: 513},
		"all numbers of states":   {States: math.MaxInt},
		"negative start":          {States: 2, Start: -1},
		"start behind the states": {States: 2, Start: 2},
		"negative final":          {States: 2, Finals: []int{-1}},
		"final behind the states": {States: 2, Finals: []int{0, 2}},
		"equal finals":            {States: 2, Finals: []int{1, 1}},
		"descending finals":       {States: 3, Finals: []int{0, 2, 1}},
	}
	for name, a := range map[string]api.Arc{
		"negative From":          {From: -1},
		"From behind the states": {From: 1},
		"negative To":            {To: -1},
		"To behind the states":   {To: 1},
		"negative In":            {In: -1},
		"In a low surrogate":     {In: 0xDC00},
		"In the first surrogate": {In: 0xD800},
		"In the last surrogate":  {In: 0xDFFF},
		"In behind the runes":    {In: 0x110000},
		"negative Out":           {Out: -1},
		"Out a surrogate":        {Out: 0xD800},
		"Out the last surrogate": {Out: 0xDFFF},
		"Out behind the runes":   {Out: 0x110000},
		"greatest Out":           {Out: math.MaxInt32},
		"least In":               {In: math.MinInt32},
	} {
		out[name] = loops(api.Arc{}, a)
	}
	out["4097 arcs"] = loops(make([]api.Arc, 4097)...)
	return out
}

func TestValid(t *testing.T) { // P3.1
	for name, x := range map[string]api.Transducer{
		"one state":          {States: 1},
		"empty slices":       {States: 1, Finals: []int{}, Arcs: []api.Arc{}},
		"512 states":         {States: 512, Start: 511, Finals: []int{0, 511}, Arcs: []api.Arc{{From: 511, To: 511}}},
		"4096 equal arcs":    loops(make([]api.Arc, 4096)...),
		"epsilon":            loops(api.Arc{}),
		"first rune":         loops(api.Arc{In: 1, Out: 1}),
		"last rune":          loops(api.Arc{In: 0x10FFFF, Out: 0x10FFFF}),
		"beside surrogates":  loops(api.Arc{In: 0xD7FF, Out: 0xE000}, api.Arc{In: 0xE000, Out: 0xD7FF}),
		"replacement rune":   loops(api.Arc{In: 0xFFFD, Out: 0xFFFD}),
		"all states final":   {States: 3, Finals: []int{0, 1, 2}},
		"the example":        example(),
		"chain with 512":     chain(512),
		"a start that is 1":  {States: 2, Start: 1},
		"no path to a final": {States: 2, Finals: []int{1}},
	} {
		if !Valid(x) {
			t.Error(name)
		}
	}
	for name, x := range invalid() {
		if Valid(x) {
			t.Error(name)
		}
	}
}

func TestInvalid(t *testing.T) { // P3.1, P1
	for name, x := range invalid() {
		if Relates(x, "", "") || Sequential(x) || !Empty(x) {
			t.Error(name, "Relates, Sequential or Empty")
		}
		if y := Trim(x); !equal(y, api.Transducer{}) {
			t.Error(name, y)
		}
		if a, b, ok := Shortest(x); a != "" || b != "" || ok {
			t.Error(name, a, b, ok)
		}
		for _, r := range []rune{0, 'a'} {
			if l := Step(x, []int{0}, r); len(l) != 0 {
				t.Error(name, l)
			}
		}
		if l, e := Outputs(x, "", 0); len(l) != 0 || e != api.ErrArgument {
			t.Error(name, l, e)
		}
	}
}

func TestRelates(t *testing.T) { // P3.2
	cycle := api.Transducer{States: 2, Finals: []int{1}, Arcs: []api.Arc{{From: 0, To: 1}, {From: 1, To: 0}, {From: 1, To: 1, Out: 'é'}, {From: 0, To: 0, In: '\U0010FFFF'}}}
	start := api.Transducer{States: 2, Start: 1, Finals: []int{0}, Arcs: []api.Arc{{From: 1, To: 0, In: 'a', Out: 'b'}}}
	for _, c := range []struct {
		t    api.Transducer
		x, y string
		want bool
	}{
		{example(), "a", "b", true},
		{example(), "aa", "b", true},
		{example(), "aaaa", "b", true},
		{example(), "", "", false},
		{example(), "a", "", false},
		{example(), "", "b", false},
		{example(), "a", "bb", false},
		{example(), "ab", "b", false},
		{example(), "b", "a", false},
		{api.Transducer{States: 1}, "", "", false},
		{loops(), "", "", true},
		{loops(), "a", "", false},
		{loops(), "", "a", false},
		{cycle, "", "", true},
		{cycle, "\U0010FFFF\U0010FFFF", "ééé", true},
		{cycle, "é", "", false},
		{start, "a", "b", true},
		{start, "b", "a", false},
		{loops(api.Arc{In: 0xFFFD, Out: 'a'}), "\uFFFD", "a", true},
		{loops(api.Arc{In: 0xFFFD, Out: 'a'}), "\xff", "a", false},
		{loops(api.Arc{In: 'a', Out: 0xFFFD}), "a", "\xff", false},
		{loops(api.Arc{In: 'a'}, api.Arc{}), "a\x00", "", false},
		{loops(api.Arc{}), "\x00", "", false},
		{loops(api.Arc{}), "", "\x00", false},
		{loops(api.Arc{}), "", "\xed\xa0\x80", false},
	} {
		if Relates(c.t, c.x, c.y) != c.want {
			t.Errorf("Relates(%v, %q, %q) is not %v", c.t, c.x, c.y, c.want)
		}
	}
}

func TestRelatesModel(t *testing.T) { // P3.2
	r := rand.New(rand.NewSource(1))
	for range 400 {
		x := random(r)
		for _, in := range strs(3) {
			for _, out := range strs(3) {
				if got, want := Relates(x, in, out), relates(x, in, out); got != want {
					t.Fatalf("Relates(%v, %q, %q) = %v", x, in, out, got)
				}
			}
		}
	}
}

func TestRelatesLong(t *testing.T) { // P3.2: strings of any length
	any := loops(api.Arc{In: 'a'}, api.Arc{Out: 'b'})
	if !Relates(any, strings.Repeat("a", 300), strings.Repeat("b", 300)) || Relates(any, strings.Repeat("a", 300), strings.Repeat("b", 299)+"a") {
		t.Error("many alignments")
	}
	same := loops(api.Arc{In: 'a', Out: 'a'})
	if long := strings.Repeat("a", 100000); !Relates(same, long, long) || Relates(same, long, long[1:]) || Relates(same, long[1:], long) {
		t.Error("100000 runes")
	}
	if !Relates(chain(512), strings.Repeat("a", 511), strings.Repeat("b", 511)) || Relates(chain(512), strings.Repeat("a", 510), strings.Repeat("b", 510)) {
		t.Error("512 states")
	}
}

func TestEmpty(t *testing.T) { // P3.4
	for _, c := range []struct {
		t    api.Transducer
		want bool
	}{
		{api.Transducer{States: 1}, true},
		{loops(), false},
		{example(), false},
		{api.Transducer{States: 2, Finals: []int{1}}, true},
		{api.Transducer{States: 2, Finals: []int{0}, Arcs: []api.Arc{{From: 0, To: 1}}}, false},
		{api.Transducer{States: 2, Start: 1, Finals: []int{0}, Arcs: []api.Arc{{From: 0, To: 1}}}, true},
		{api.Transducer{States: 2, Start: 1, Finals: []int{0}, Arcs: []api.Arc{{From: 1, To: 0}}}, false},
		{api.Transducer{States: 3, Arcs: []api.Arc{{From: 0, To: 1}, {From: 1, To: 0}}}, true},
		{chain(512), false},
	} {
		if Empty(c.t) != c.want {
			t.Error(c.t)
		}
	}
}

func TestTrim(t *testing.T) { // P3.5
	third := example()
	third.States = 3
	third.Arcs = append(third.Arcs, api.Arc{From: 0, To: 2, In: 'a', Out: 'a'})
	none := api.Transducer{States: 1}
	for _, c := range []struct {
		name    string
		t, want api.Transducer
	}{
		{"the example stays", example(), example()},
		{"a dead end", third, example()},
		{"empty", api.Transducer{States: 4, Start: 2, Arcs: []api.Arc{{From: 2, To: 3, In: 'a', Out: 'a'}}}, none},
		{"a final state out of reach", api.Transducer{States: 4, Start: 2, Finals: []int{1}, Arcs: []api.Arc{{From: 1, To: 2}, {From: 2, To: 2}}}, none},
		{"no arcs", api.Transducer{States: 3, Start: 1, Finals: []int{0, 1}}, loops()},
		{
			"renumbered in order",
			api.Transducer{States: 6, Start: 4, Finals: []int{1, 3}, Arcs: []api.Arc{{From: 4, To: 1, In: 'x', Out: 'y'}, {From: 3, To: 1}, {From: 1, To: 0}, {From: 4, To: 5}, {From: 5, To: 1, In: 'b'}}},
			api.Transducer{States: 3, Start: 1, Finals: []int{0}, Arcs: []api.Arc{{From: 1, To: 0, In: 'x', Out: 'y'}, {From: 1, To: 2}, {From: 2, To: 0, In: 'b'}}},
		},
		{
			"sorted, each once",
			api.Transducer{States: 2, Finals: []int{0, 1}, Arcs: []api.Arc{{From: 1, To: 0}, {From: 0, To: 1, In: 'b'}, {From: 0, To: 1, In: 'a', Out: 'b'}, {From: 0, To: 1, In: 'a', Out: 'a'}, {From: 0, To: 0, In: 'z', Out: 'z'}, {From: 0, To: 1, In: 'a', Out: 'b'}, {From: 0, To: 1}}},
			api.Transducer{States: 2, Finals: []int{0, 1}, Arcs: []api.Arc{{From: 0, To: 0, In: 'z', Out: 'z'}, {From: 0, To: 1}, {From: 0, To: 1, In: 'a', Out: 'a'}, {From: 0, To: 1, In: 'a', Out: 'b'}, {From: 0, To: 1, In: 'b'}, {From: 1, To: 0}}},
		},
		{"4096 equal arcs", loops(make([]api.Arc, 4096)...), loops(api.Arc{})},
		{"512 states", chain(512), chain(512)},
	} {
		if got := Trim(c.t); !equal(got, c.want) {
			t.Errorf("%s: %v, not %v", c.name, got, c.want)
		}
	}
}

func TestTrimModel(t *testing.T) { // P3.4, P3.5
	r := rand.New(rand.NewSource(2))
	for range 3000 {
		x := random(r)
		got, want := Trim(x), trimmed(x)
		if !equal(got, want) || !Valid(got) {
			t.Fatalf("Trim(%v) = %v, not %v", x, got, want)
		}
		if Empty(x) != (len(want.Finals) == 0) || !equal(Trim(got), got) {
			t.Fatal(x)
		}
		for _, in := range strs(2) {
			for _, out := range strs(2) {
				if Relates(got, in, out) != Relates(x, in, out) {
					t.Fatalf("%v relates %q to %q otherwise when trimmed", x, in, out)
				}
			}
		}
	}
}

func TestSequential(t *testing.T) { // P3.6
	further := example()
	further.Arcs = append(further.Arcs, api.Arc{From: 1, To: 1, Out: 'c'})
	for _, c := range []struct {
		name string
		t    api.Transducer
		want bool
	}{
		{"no arcs", api.Transducer{States: 1}, true},
		{"the example", example(), true},
		{"the example with an arc that reads epsilon", further, false},
		{"epsilon alone", loops(api.Arc{Out: 'a'}), false},
		{"equal arcs", loops(api.Arc{In: 'a', Out: 'b'}, api.Arc{In: 'a', Out: 'b'}), false},
		{"two outputs", loops(api.Arc{In: 'a', Out: 'b'}, api.Arc{In: 'a', Out: 'c'}), false},
		{"two ends", api.Transducer{States: 2, Arcs: []api.Arc{{From: 0, To: 0, In: 'a'}, {From: 0, To: 1, In: 'a'}}}, false},
		{"two inputs", loops(api.Arc{In: 'a', Out: 'b'}, api.Arc{In: 'b', Out: 'b'}), true},
		{"two beginnings", api.Transducer{States: 2, Arcs: []api.Arc{{From: 0, To: 0, In: 'a'}, {From: 1, To: 0, In: 'a'}}}, true},
		{"in states that lead nowhere", api.Transducer{States: 2, Finals: []int{0}, Arcs: []api.Arc{{From: 1, To: 1, In: 'a'}, {From: 1, To: 1, In: 'a'}}}, false},
	} {
		if Sequential(c.t) != c.want {
			t.Error(c.name)
		}
	}
}

func TestStep(t *testing.T) { // P3.7
	// 0 -ε-> 1 -a-> 2 -ε-> 3 -ε-> 2, 3 -a-> 4, 4 -b-> 0
	x := api.Transducer{States: 5, Arcs: []api.Arc{{From: 0, To: 1, Out: 'z'}, {From: 1, To: 2, In: 'a'}, {From: 2, To: 3}, {From: 3, To: 2}, {From: 3, To: 4, In: 'a', Out: 'y'}, {From: 4, To: 0, In: 'b'}}}
	for _, c := range []struct {
		t      api.Transducer
		states []int
		r      rune
		want   []int
	}{
		{example(), []int{0}, 'a', []int{1}},
		{example(), []int{0}, 0, []int{0}},
		{example(), []int{0}, 'b', nil},
		{example(), []int{1, 0, 1, 0}, 'a', []int{1}},
		{x, []int{0}, 'a', []int{2, 3}},
		{x, []int{0}, 0, []int{0, 1}},
		{x, []int{3}, 'a', []int{4}},
		{x, []int{2}, 'a', []int{4}},
		{x, []int{4}, 'b', []int{0, 1}},
		{x, []int{3, 0}, 0, []int{0, 1, 2, 3}},
		{x, []int{3, 0}, 'a', []int{2, 3, 4}},
		{x, nil, 0, nil},
		{x, nil, 'a', nil},
		{x, []int{}, 'a', nil},
		{x, []int{-1, 5, math.MinInt, math.MaxInt}, 0, nil},
		{x, []int{-1, 0, 5}, 'a', []int{2, 3}},
		{x, []int{0, 1, 2, 3, 4}, -1, nil},
		{x, []int{0, 1, 2, 3, 4}, 0xD800, nil},
		{x, []int{0, 1, 2, 3, 4}, 0x110000, nil},
		{x, []int{0, 1, 2, 3, 4}, utf8.RuneError, nil},
	} {
		if got := Step(c.t, c.states, c.r); !slices.Equal(got, c.want) {
			t.Errorf("Step(%v, %v, %q) = %v, not %v", c.t, c.states, c.r, got, c.want)
		}
	}
}

func TestStepModel(t *testing.T) { // P3.7
	r := rand.New(rand.NewSource(3))
	for range 3000 {
		x := random(r)
		var states []int
		for range r.Intn(4) {
			states = append(states, r.Intn(6)-1)
		}
		for _, c := range []rune{0, 'a', 'b', 'c'} {
			if got, want := Step(x, states, c), stepped(x, states, c); !slices.Equal(got, want) {
				t.Fatalf("Step(%v, %v, %q) = %v, not %v", x, states, c, got, want)
			}
		}
	}
}

func TestArgumentsStay(t *testing.T) { // the rules on memory
	x := api.Transducer{States: 3, Finals: []int{1, 2}, Arcs: []api.Arc{{From: 2, To: 2, In: 'a'}, {From: 0, To: 1, In: 'a', Out: 'b'}, {From: 0, To: 1, In: 'a', Out: 'b'}, {From: 0, To: 0, In: 'b'}}}
	before, states := clone(x), []int{2, 0, 2, 9}
	Relates(x, "a", "b")
	Outputs(x, "a", 3)
	Empty(x)
	Shortest(x)
	Sequential(x)
	s := Step(x, states, 0)
	s[0] = 7
	y := Trim(x)
	y.Finals[0], y.Arcs[0] = 7, api.Arc{From: 7}
	if !equal(x, before) || !slices.Equal(states, []int{2, 0, 2, 9}) {
		t.Error("an argument changed")
	}
	if z := Trim(example()); &z.Arcs[0] == &Trim(example()).Arcs[0] {
		t.Error("results share memory")
	}
}
