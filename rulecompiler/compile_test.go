package rulecompiler

import (
	"math/rand"
	"slices"
	"strings"
	"testing"

	"pentaglot/api"
	"pentaglot/composition"
	"pentaglot/raw"
	"pentaglot/rewrite"
	"pentaglot/transducer"
)

// drop is the rule of the chapter's first example.
func drop() api.Rule { return api.Rule{From: 't', Right: []api.Item{{Mask: api.Vowel}}} }

// widest returns a rule over many, whose automata have as many states as there can be.
func widest(to string) api.Rule {
	return api.Rule{To: to, Left: []api.Item{{Mask: 1}, {Mask: 2}, {Mask: 4}}, Right: []api.Item{{Mask: 8}, {Mask: 16}, {Mask: 32}}}
}

func TestCompile(t *testing.T) { // P8.1: constructions that are worked out by hand
	for _, c := range []struct {
		name string
		r    api.Rule
		want api.Transducer
	}{
		{"example 1", drop(), api.Transducer{States: 3, Finals: []int{1}, Arcs: []api.Arc{
			{From: 0, To: 1}, {From: 0, To: 2}, {From: 1, To: 1, In: 't', Out: 't'}, {From: 1, To: 2, In: 't'}, {From: 2, To: 1, In: 'a', Out: 'a'}, {From: 2, To: 2, In: 'a', Out: 'a'},
		}}},
		{"example 2", api.Rule{To: "a", Final: true}, api.Transducer{States: 4, Finals: []int{1}, Arcs: []api.Arc{
			{From: 0, To: 2}, {From: 0, To: 3}, {From: 2, To: 1, Out: 'a'}, {From: 3, To: 2, In: 'a', Out: 'a'}, {From: 3, To: 2, In: 't', Out: 't'}, {From: 3, To: 3, In: 'a', Out: 'a'}, {From: 3, To: 3, In: 't', Out: 't'},
		}}},
		{"nothing inserted", api.Rule{}, api.Transducer{States: 2, Finals: []int{1}, Arcs: []api.Arc{{From: 0, To: 1}, {From: 1, To: 1, In: 'a', Out: 'a'}, {From: 1, To: 1, In: 't', Out: 't'}}}},
		{"a letter for two", api.Rule{From: 'a', To: "ta"}, api.Transducer{States: 3, Finals: []int{1}, Arcs: []api.Arc{
			{From: 0, To: 1}, {From: 1, To: 1, In: 't', Out: 't'}, {From: 1, To: 2, In: 'a', Out: 't'}, {From: 2, To: 1, Out: 'a'},
		}}},
	} {
		if got, e := Compile(letters(), c.r); e != api.OK || !equal(got, c.want) {
			t.Errorf("%s: %v, %d", c.name, got, e)
		}
	}
}

func TestCompileModel(t *testing.T) { // P8.1, P8.6
	r := rand.New(rand.NewSource(1))
	for range 1500 {
		x := randomRule(r)
		got, e := Compile(three(), x)
		if want := raw.Trim(constructionBy(three(), x)); e != api.OK || !equal(got, want) || !transducer.Valid(got) {
			t.Fatalf("Compile(%+v) = %v, %d, not %v", x, got, e, want)
		}
		for _, w := range strs(three(), 3) {
			want, _ := rewrite.Apply(three(), x, w)
			if l, e := transducer.Outputs(got, w, 1000); e != api.OK || !slices.Equal(l, []string{want}) {
				t.Fatalf("%+v relates %q to %q, not %q", x, w, l, want)
			}
		}
	}
}

func TestCompileLong(t *testing.T) { // P8.6: strings of any length, and no other strings
	as := func(n int) string { return strings.Repeat("a", n) }
	for _, c := range []struct {
		r    api.Rule
		x, y string
	}{
		{api.Rule{From: 'a', To: "tt"}, as(40), strings.Repeat("t", 80)},
		{api.Rule{From: 'a', To: "tt"}, as(3000), strings.Repeat("tt", 3000)},
		{api.Rule{To: "t"}, as(2000), strings.Repeat("ta", 2000) + "t"},
		{api.Rule{From: 'a', Right: []api.Item{{Repeated: true}, {Mask: api.Consonant}}}, as(500) + "t" + as(500), "t" + as(500)},
		{api.Rule{From: 'a', To: "t", Left: []api.Item{{Mask: api.Vowel, Repeated: true}}, Initial: true}, as(500) + "t" + as(500), strings.Repeat("t", 501) + as(500)},
	} {
		x, e := Compile(letters(), c.r)
		if e != api.OK || !transducer.Relates(x, c.x, c.y) || transducer.Relates(x, c.x, c.x) || transducer.Relates(x, c.x, c.y+"t") {
			t.Errorf("%+v", c.r)
		}
		for _, w := range []string{"x", "ax", "é", " ", "tat "} {
			if l, e := transducer.Outputs(x, w, 100); e != api.OK || len(l) != 0 {
				t.Errorf("%+v relates %q to %q", c.r, w, l)
			}
		}
	}
}

func TestCompileLimits(t *testing.T) { // P8.1: limits after trimming; a rule has at most 129 states, so that only the arcs can be too many
	for _, c := range []struct {
		name         string
		letters      int
		to           string
		raw          int // the arcs of the raw construction
		states, arcs int
		e            api.Errno
	}{
		{"48 letters", 48, "āāāā", 3336, 129, 3144, api.OK},
		{"too many arcs only before trimming", 62, "āāāā", 4232, 129, 4040, api.OK},
		{"63 letters and three runes", 63, "āāā", 4232, 113, 4088, api.OK},
		{"63 letters and four runes", 63, "āāāā", 4296, 0, 0, api.ErrTooLarge},
		{"64 letters and no rune", 64, "", 4104, 0, 0, api.ErrTooLarge},
		{"65 letters", 65, "āāāā", 4424, 0, 0, api.ErrTooLarge},
	} {
		a, r := many(c.letters), widest(c.to)
		if n := len(constructionBy(a, r).Arcs); n != c.raw {
			t.Errorf("%s: %d arcs before trimming", c.name, n)
		}
		got, e := Compile(a, r)
		if e != c.e || got.States != c.states || len(got.Arcs) != c.arcs || e == api.OK && !equal(got, raw.Trim(constructionBy(a, r))) {
			t.Errorf("%s: %d states, %d arcs, %d", c.name, got.States, len(got.Arcs), e)
		}
	}
	if got, e := Compile(many(65), api.Rule{From: 0x140, To: "\u0100"}); e != api.OK || got.States != 2 || len(got.Arcs) != 66 {
		t.Error(got, e)
	}
}

func TestCompileAlways(t *testing.T) { // P8.7: at most 48 letters, and no anchors
	for from := range 2 {
		for left := range 15 {
			for right := range 15 {
				r := api.Rule{From: rune(from * (0x100 + 47)), To: "āĀāĀ", Left: shape(left, 1), Right: shape(right, 8)}
				if got, e := Compile(many(48), r); e != api.OK || !transducer.Valid(got) {
					t.Errorf("%+v: %d", r, e)
				}
			}
		}
	}
	// With anchors and 48 letters it is compiled as well, but with more letters not always.
	r := widest("āāāā")
	r.Left[0].Repeated, r.Initial = true, true
	if _, e := Compile(many(48), r); e != api.OK {
		t.Error(e)
	}
	if _, e := Compile(many(65), r); e != api.ErrTooLarge {
		t.Error(e)
	}
}

// shape returns one of the 15 patterns that differ in their numbers of items and in the Repeated ones; its masks are mask and the bits above it.
func shape(number int, mask uint32) []api.Item {
	items := 0
	for number >= 1<<items {
		number -= 1 << items
		items++
	}
	var out []api.Item
	for k := range items {
		out = append(out, api.Item{Mask: mask << k, Repeated: number>>k&1 == 1})
	}
	return out
}

func TestCompileInvalid(t *testing.T) { // P8.1, P8.2, P1
	good := api.Rule{}
	for _, r := range wrong() {
		if got, e := Compile(letters(), r); e != api.ErrArgument || !equal(got, api.Transducer{}) {
			t.Errorf("Compile(%+v) = %v, %d", r, got, e)
		}
		for _, rules := range [][]api.Rule{{r}, {r, good, good}, {good, r, good}, {good, good, r}} {
			if got, e := CompileAll(letters(), rules); e != api.ErrArgument || !equal(got, api.Transducer{}) {
				t.Errorf("CompileAll(%+v) = %v, %d", rules, got, e)
			}
		}
	}
	for _, a := range inadmissible() {
		if got, e := Compile(a, good); e != api.ErrArgument || !equal(got, api.Transducer{}) {
			t.Errorf("Compile over %v = %v, %d", a, got, e)
		}
		for _, rules := range [][]api.Rule{nil, {}, {good}} {
			if got, e := CompileAll(a, rules); e != api.ErrArgument || !equal(got, api.Transducer{}) {
				t.Errorf("CompileAll over %v = %v, %d", a, got, e)
			}
		}
	}
}

func TestCompileAll(t *testing.T) { // P8.2
	for _, rules := range [][]api.Rule{nil, {}} {
		want := api.Transducer{States: 1, Finals: []int{0}, Arcs: []api.Arc{{In: 'a', Out: 'a'}, {In: 'e', Out: 'e'}, {In: 't', Out: 't'}}}
		if got, e := CompileAll(three(), rules); e != api.OK || !equal(got, want) {
			t.Error(got, e)
		}
	}
	if got, e := CompileAll(many(65), nil); e != api.OK || got.States != 1 || len(got.Arcs) != 65 || !transducer.Relates(got, "\u0140\u0100", "\u0140\u0100") {
		t.Error(got, e)
	}
	one, _ := Compile(letters(), drop())
	two, _ := Compile(letters(), api.Rule{From: 'a', To: "tt"})
	for _, c := range []struct {
		rules []api.Rule
		list  []api.Transducer
	}{
		{[]api.Rule{drop()}, []api.Transducer{one}},
		{[]api.Rule{drop(), {From: 'a', To: "tt"}}, []api.Transducer{one, two}},
		{[]api.Rule{{From: 'a', To: "tt"}, drop()}, []api.Transducer{two, one}},
		{[]api.Rule{drop(), {From: 'a', To: "tt"}, drop()}, []api.Transducer{one, two, one}},
	} {
		want, _ := composition.Chain(c.list...)
		if got, e := CompileAll(letters(), c.rules); e != api.OK || !equal(got, want) {
			t.Errorf("%+v: %v, %d, not %v", c.rules, got, e, want)
		}
	}
}

func TestCompileAllModel(t *testing.T) { // P8.2, P8.6
	r := rand.New(rand.NewSource(2))
	compiled := 0
	for range 600 {
		rules := randomRules(r, 3)
		got, e := CompileAll(three(), rules)
		if e == api.ErrTooLarge {
			continue
		}
		compiled++
		for range 8 {
			w := strs(three(), 4)[r.Intn(121)]
			want, f := rewrite.Cascade(three(), rules, w)
			if s, g := Run(got, w); e != api.OK || f == api.OK && (g != api.OK || s != want) {
				t.Fatalf("%+v: %q becomes %q, %d, not %q", rules, w, s, g, want)
			}
		}
		if s, e := Run(got, "tx"); s != "" || e != api.ErrNotFound {
			t.Fatalf("%+v: %q, %d", rules, s, e)
		}
	}
	if compiled < 500 {
		t.Error("only", compiled, "cascades could be compiled")
	}
}

func TestCompileAllLimits(t *testing.T) { // P8.2: 512 and 513 states, 64 and 65 rules, and the order of the errors
	largest := []api.Rule{{To: "tata", Final: true}, {From: 'a', To: "at"}, {From: 'a', To: "a", Initial: true}, {To: "aaaa"}, {To: "ttt"}}
	larger := []api.Rule{{To: "at", Final: true}, {From: 't', To: "t"}, {To: "aaaa"}, {From: 'a', To: "aaaa"}, {To: "tt"}}
	if got, e := CompileAll(letters(), largest); e != api.OK || got.States != 512 || !transducer.Valid(got) {
		t.Error(got.States, e)
	}
	before, e := CompileAll(letters(), larger[:4])
	last, _ := Compile(letters(), larger[4])
	if n := raw.Trim(composedBy(before, last)).States; e != api.OK || n != 513 {
		t.Error(n, e)
	}
	ignored := slices.Repeat([]api.Rule{{From: 'a', To: "a"}}, 65)
	tooLarge := widest("\u0101\u0101\u0101\u0101")
	small := api.Rule{From: 0x100}
	for _, c := range []struct {
		name  string
		a     []api.Letter
		rules []api.Rule
		e     api.Errno
	}{
		{"513 states", letters(), larger, api.ErrTooLarge},
		{"513 states in between", letters(), append(slices.Clone(larger), api.Rule{From: 't'}), api.ErrTooLarge},
		{"nine rules", letters(), ignored[:9], api.OK},
		{"ten rules, each of which doubles the states at least", letters(), ignored[:10], api.ErrTooLarge},
		{"64 rules", letters(), ignored[:64], api.ErrTooLarge},
		{"65 rules", letters(), ignored, api.ErrArgument},
		{"a million rules", letters(), make([]api.Rule, 1000000), api.ErrArgument},
		{"one rule that is too large", many(65), []api.Rule{tooLarge}, api.ErrTooLarge},
		{"the first rule is too large", many(65), []api.Rule{tooLarge, small}, api.ErrTooLarge},
		{"the last rule is too large", many(65), []api.Rule{small, tooLarge}, api.ErrTooLarge},
		{"too large, then not valid", many(65), []api.Rule{tooLarge, {From: 'x'}}, api.ErrArgument},
		{"too large together, then not valid", letters(), append(slices.Clone(larger), api.Rule{From: 'x'}), api.ErrArgument},
	} {
		if got, e := CompileAll(c.a, c.rules); e != c.e || e != api.OK && !equal(got, api.Transducer{}) {
			t.Errorf("%s: %d states, %d", c.name, got.States, e)
		}
	}
}

func TestLanguages(t *testing.T) { // P8.6: the rules of the given languages, for the stems of their lexemes with endings
	for _, l := range []api.Language{api.Anta(), api.Bero(), api.Cuni(), api.Delu(), api.Emai()} {
		a, rules := l.Words.Alphabet, l.Words.Rules
		x, e := CompileAll(a, rules)
		if e != api.OK {
			t.Fatal(l.Name, e)
		}
		for _, lexeme := range l.Words.Lexemes {
			for _, letter := range a {
				for _, w := range []string{lexeme.Stem + string(letter.Rune), string(letter.Rune) + lexeme.Stem} {
					want, _ := rewrite.Cascade(a, rules, w)
					if got, e := Run(x, w); e != api.OK || got != want {
						t.Fatalf("%s: %q becomes %q, %d, not %q", l.Name, w, got, e, want)
					}
				}
			}
			want, _ := rewrite.Cascade(a, rules, lexeme.Stem)
			if found, e := Preimages(a, rules, want, api.MaxWord); e != api.OK || !slices.Contains(found, lexeme.Stem) {
				t.Fatalf("%s: %q, %q, %d", l.Name, want, found, e)
			}
		}
	}
}

func TestRun(t *testing.T) { // P8.3
	loop := func(arcs ...api.Arc) api.Transducer {
		return api.Transducer{States: 1, Finals: []int{0}, Arcs: arcs}
	}
	same, two := loop(api.Arc{In: 'a', Out: 'a'}), loop(api.Arc{In: 'a', Out: 'a'}, api.Arc{In: 'a', Out: 't'})
	double := api.Transducer{States: 2, Finals: []int{0}, Arcs: []api.Arc{{From: 0, To: 1, In: 'a', Out: 'a'}, {From: 1, To: 0, Out: 'a'}}}
	endless := api.Transducer{States: 2, Finals: []int{1}, Arcs: []api.Arc{{From: 0, To: 1, In: 'a', Out: 'b'}, {From: 1, To: 1, Out: 'c'}}}
	// The lengths of its outputs are multiples of 511 runes, so that there are only nine up to MaxText.
	ring := api.Transducer{States: 511, Finals: []int{0}}
	for s := range 511 {
		ring.Arcs = append(ring.Arcs, api.Arc{From: s, To: (s + 1) % 511, Out: 'c'})
	}
	ways := loop(api.Arc{In: 'a', Out: 'b'}, api.Arc{In: 'a', Out: 'b'}, api.Arc{})
	as := func(n int) string { return strings.Repeat("a", n) }
	for _, c := range []struct {
		name    string
		t       api.Transducer
		x, want string
		e       api.Errno
	}{
		{"one output", same, "aa", "aa", api.OK},
		{"the empty string", same, "", "", api.OK},
		{"no output", same, "t", "", api.ErrNotFound},
		{"no output for a part", same, "at", "", api.ErrNotFound},
		{"nothing is related", api.Transducer{States: 1}, "", "", api.ErrNotFound},
		{"several outputs", two, "a", "", api.ErrAmbiguous},
		{"several outputs for other strings", two, "", "", api.OK},
		{"256 outputs", two, as(8), "", api.ErrAmbiguous},
		{"512 outputs", two, as(9), "", api.ErrAmbiguous},
		{"far more outputs", two, as(100), "", api.ErrAmbiguous},
		{"an output of any length", endless, "a", "", api.ErrAmbiguous},
		{"an output of some lengths", ring, "", "", api.ErrAmbiguous},
		{"one output on several paths", ways, "aa", "bb", api.OK},
		{"4096 runes", same, as(4096), as(4096), api.OK},
		{"4097 runes", same, as(4097), "", api.ErrNotFound},
		{"an output of 4096 runes", double, as(2048), as(4096), api.OK},
		{"an output of 4098 runes", double, as(2049), "", api.ErrNotFound},
		{"the rune 0", same, "\x00", "", api.ErrArgument},
		{"a wrong byte", same, "a\xff", "", api.ErrArgument},
		{"a surrogate", same, "\xed\xa0\x80", "", api.ErrArgument},
		{"no states", api.Transducer{}, "", "", api.ErrArgument},
		{"a start that is no state", api.Transducer{States: 1, Start: 1}, "", "", api.ErrArgument},
		{"an arc to no state", loop(api.Arc{To: 1}), "", "", api.ErrArgument},
		{"513 states", api.Transducer{States: 513}, "", "", api.ErrArgument},
	} {
		if got, e := Run(c.t, c.x); got != c.want || e != c.e {
			t.Errorf("%s: %q, %d", c.name, got, e)
		}
	}
}

func TestCompileArgumentsStay(t *testing.T) { // the rules on memory
	a, r := letters(), api.Rule{From: 't', Right: []api.Item{{Mask: api.Vowel}, {Mask: api.Consonant}}}
	x, _ := Compile(a, r)
	x.Arcs[0], x.Finals[0] = api.Arc{From: 9}, 9
	if y, _ := Compile(a, r); equal(x, y) || !slices.Equal(a, letters()) || r.Right[0].Mask != api.Vowel || r.Right[1].Mask != api.Consonant {
		t.Error("an argument changed, or results share memory")
	}
}
