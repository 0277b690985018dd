package morphology

import (
	"fmt"
	"math/rand"
	"reflect"
	"strings"
	"testing"

	"pentaglot/api"
)

func TestCheck(t *testing.T) { // P11.1
	valid := map[string]api.Words{
		"the example":      example(),
		"all lists":        rich(),
		"an alphabet only": {Alphabet: letters()},
		"no rules":         {Alphabet: letters(), Paradigms: []api.Paradigm{noun()}, Lexemes: example().Lexemes},
		"no paradigms":     {Alphabet: letters(), Rules: rich().Rules, Lexemes: example().Lexemes[1:2]},
		"no lexemes":       {Alphabet: letters(), Rules: rich().Rules, Paradigms: rich().Paradigms},
		"empty lists":      {Alphabet: letters(), Rules: []api.Rule{}, Paradigms: []api.Paradigm{}, Lexemes: []api.Lexeme{}},
	}
	for _, l := range []api.Language{api.Anta(), api.Bero(), api.Cuni(), api.Delu(), api.Emai()} {
		valid[l.Name] = l.Words
	}
	for name, w := range valid {
		if e := Check(w); e != api.OK {
			t.Errorf("%s: %d", name, e)
		}
	}
	if e := Check(api.Words{}); e != api.ErrArgument {
		t.Errorf("the zero value: %d", e)
	}
}

// fault is a change that makes a valid morphology invalid.
type fault struct {
	name   string
	want   api.Errno
	change func(w *api.Words)
}

// faults returns changes of the morphology rich, each with its error.
func faults() []fault {
	return []fault{
		{"no alphabet", api.ErrArgument, func(w *api.Words) { w.Alphabet = nil }},
		{"a letter twice", api.ErrArgument, func(w *api.Words) { w.Alphabet = append(w.Alphabet, letters()[0]) }},
		{"a letter that is a blank", api.ErrArgument, func(w *api.Words) { w.Alphabet = append(w.Alphabet, api.Letter{Rune: ' '}) }},
		{"65 letters", api.ErrArgument, func(w *api.Words) {
			for i := len(w.Alphabet); i < 65; i++ {
				w.Alphabet = append(w.Alphabet, api.Letter{Rune: rune(0x100 + i)})
			}
		}},
		{"a rule for another letter", api.ErrArgument, func(w *api.Words) { w.Rules = append(w.Rules, api.Rule{From: 'x'}) }},
		{"a rule that writes another letter", api.ErrArgument, func(w *api.Words) { w.Rules[1].To = "x" }},
		{"a first rule with a wrong context", api.ErrArgument, func(w *api.Words) { w.Rules[0].Left = []api.Item{{Letters: "x"}} }},
		{"65 rules", api.ErrArgument, func(w *api.Words) { w.Rules = make([]api.Rule, 65) }},
		{"a paradigm without a name", api.ErrArgument, func(w *api.Words) { w.Paradigms = append(w.Paradigms, api.Paradigm{}) }},
		{"a paradigm with an underscore", api.ErrArgument, func(w *api.Words) { w.Paradigms[1].Name = "a_b" }},
		{"a first paradigm with an affix of another letter", api.ErrArgument, func(w *api.Words) { w.Paradigms[0].Slots[0][0].Prefix = "x" }},
		{"a dimension without values", api.ErrArgument, func(w *api.Words) { w.Paradigms[1].Dimensions[0].Values = nil }},
		{"33 paradigms", api.ErrArgument, func(w *api.Words) { w.Paradigms = paradigms(33) }},
		{"an ID twice", api.ErrArgument, func(w *api.Words) { w.Lexemes[1].ID = "boat" }},
		{"a stem with another letter", api.ErrArgument, func(w *api.Words) { w.Lexemes[2].Stem = "box" }},
		{"features in another order", api.ErrArgument, func(w *api.Words) { w.Lexemes[0].Features = append(record("b=1"), record("a=1")...) }},
		{"257 lexemes", api.ErrArgument, func(w *api.Words) { w.Lexemes = lexemes(257) }},
		{"a name of two paradigms", api.ErrExists, func(w *api.Words) { w.Paradigms = append(w.Paradigms, noun()) }},
		{"a name of two different paradigms", api.ErrExists, func(w *api.Words) { w.Paradigms = append(w.Paradigms, api.Paradigm{Name: "verb"}) }},
		{"a paradigm that is not there", api.ErrNotFound, func(w *api.Words) { w.Lexemes[1].Paradigm = "name" }},
		{"a paradigm in the last lexeme that is not there", api.ErrNotFound, func(w *api.Words) { w.Lexemes[len(w.Lexemes)-1].Paradigm = "nouns" }},
		{"a paradigm that no paradigm can be", api.ErrNotFound, func(w *api.Words) { w.Lexemes[0].Paradigm = "a_b" }},
		{"a feature of a dimension, with another value", api.ErrConflict, func(w *api.Words) { w.Lexemes[0].Features = record("number=dual") }},
		{"a feature of a dimension, with one of its values", api.ErrConflict, func(w *api.Words) { w.Lexemes[0].Features = record("number=sg") }},
		{"a second feature of a second dimension", api.ErrConflict, func(w *api.Words) { w.Lexemes[4].Features = record("g=f mood=wish") }},
	}
}

// paradigms returns n paradigms with distinct names, the first of which are those of the morphology rich.
func paradigms(n int) []api.Paradigm {
	out := rich().Paradigms
	for i := len(out); i < n; i++ {
		out = append(out, api.Paradigm{Name: fmt.Sprint("p", i)})
	}
	return out
}

// lexemes returns n lexemes without paradigms.
func lexemes(n int) []api.Lexeme {
	var out []api.Lexeme
	for i := range n {
		out = append(out, api.Lexeme{ID: fmt.Sprint("x", i), Category: "c", Stem: "te"})
	}
	return out
}

func TestCheckErrors(t *testing.T) { // P11.1
	for _, f := range faults() {
		w := rich()
		f.change(&w)
		if e := Check(w); e != f.want {
			t.Errorf("%s: %d, want %d", f.name, e, f.want)
		}
		for _, g := range faults() {
			w := rich()
			f.change(&w)
			g.change(&w)
			if e, want := Check(w), checkBy(w); e != want {
				t.Errorf("%s and %s: %d, want %d", f.name, g.name, e, want)
			}
		}
	}
}

func TestCheckTwoErrors(t *testing.T) { // P11.1: each pair of errors, in both orders of what causes them
	twice := func(w *api.Words) { w.Paradigms = append(w.Paradigms, noun()) }
	lost := func(n int) func(w *api.Words) { return func(w *api.Words) { w.Lexemes[n].Paradigm = "lost" } }
	clash := func(n int) func(w *api.Words) {
		return func(w *api.Words) { w.Lexemes[n].Features = record("number=pl") }
	}
	wrong := func(n int) func(w *api.Words) { return func(w *api.Words) { w.Lexemes[n].Stem = "x" } }
	for _, c := range []struct {
		name string
		a, b func(w *api.Words)
		want api.Errno
	}{
		{"wrong and twice", wrong(0), twice, api.ErrArgument},
		{"wrong and lost", wrong(0), lost(2), api.ErrArgument},
		{"lost and wrong", lost(0), wrong(2), api.ErrArgument},
		{"wrong and clash", wrong(0), clash(2), api.ErrArgument},
		{"clash and wrong", clash(0), wrong(2), api.ErrArgument},
		{"twice and lost", twice, lost(0), api.ErrExists},
		{"twice and clash", twice, clash(0), api.ErrExists},
		{"lost and clash", lost(0), clash(2), api.ErrNotFound},
		{"clash and lost", clash(0), lost(2), api.ErrNotFound},
		{"lost and clash in one lexeme, which then has no dimensions", lost(0), clash(0), api.ErrNotFound},
	} {
		w := example()
		c.a(&w)
		c.b(&w)
		if e := Check(w); e != c.want {
			t.Errorf("%s: %d, want %d", c.name, e, c.want)
		}
	}
}

func TestCheckLimits(t *testing.T) { // P11.1
	for _, c := range []struct {
		name   string
		change func(w *api.Words)
	}{
		{"64 rules", func(w *api.Words) { w.Rules = make([]api.Rule, 64) }},
		{"32 paradigms", func(w *api.Words) { w.Paradigms = paradigms(32) }},
		{"256 lexemes", func(w *api.Words) { w.Lexemes = lexemes(256) }},
		{"8 features", func(w *api.Words) { w.Lexemes[0].Features = record("a=1 b=1 c=1 d=1 e=1 f=1 g=1 h=1") }},
		{"a stem of 40 letters", func(w *api.Words) { w.Lexemes[0].Stem = strings.Repeat("k", 40) }},
		{"a lexeme without a paradigm that has a feature of a dimension", func(w *api.Words) { w.Lexemes[1].Features = record("mood=wish number=sg") }},
		{"a feature of a dimension of another paradigm", func(w *api.Words) { w.Lexemes[0].Features = record("mood=wish") }},
		{"a feature whose value is the name of a dimension", func(w *api.Words) { w.Lexemes[0].Features = record("a=number") }},
		{"a paradigm that no lexeme has", func(w *api.Words) { w.Paradigms = append(w.Paradigms, api.Paradigm{Name: "spare"}) }},
		{"a paradigm with the name of another thing", func(w *api.Words) { w.Paradigms = append(w.Paradigms, api.Paradigm{Name: "bare"}) }},
	} {
		w := rich()
		c.change(&w)
		if e := Check(w); e != api.OK {
			t.Errorf("%s: %d", c.name, e)
		}
	}
}

func TestCheckByDefinition(t *testing.T) { // P11.1
	source := rand.New(rand.NewSource(1))
	seen := map[api.Errno]int{}
	for range 20000 {
		w := randomWords(source)
		before := deep(w)
		e := Check(w)
		if e != checkBy(w) {
			t.Fatalf("Check(%v) = %d, want %d", w, e, checkBy(w))
		}
		if !reflect.DeepEqual(w, before) {
			t.Fatalf("Check changed %v to %v", before, w)
		}
		seen[e]++
	}
	for _, e := range []api.Errno{api.OK, api.ErrArgument, api.ErrExists, api.ErrNotFound, api.ErrConflict} {
		if seen[e] < 50 {
			t.Errorf("error %d was seen %d times only", e, seen[e])
		}
	}
}
