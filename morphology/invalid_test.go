package morphology

import (
	"math"
	"math/rand"
	"strings"
	"testing"

	"pentaglot/api"
)

// callAll calls all functions; what they return for a morphology that is not valid is not specified.
func callAll(w api.Words, id, word string, cell []api.Feature) int {
	Check(w)
	Surface(w, id, cell)
	Forms(w, id)
	Analyses(w, word)
	Ambiguity(w, word)
	Syncretic(w, id)
	n := 0
	for range All(w) {
		n++
	}
	return n
}

func TestInvalidMorphologies(t *testing.T) { // P1 of DOC.md
	more := []fault{
		{"nothing", 0, func(w *api.Words) { *w = api.Words{} }},
		{"a negative letter", 0, func(w *api.Words) { w.Alphabet[0].Rune = -1 }},
		{"a letter beyond all", 0, func(w *api.Words) { w.Alphabet[0].Rune = math.MaxInt32 }},
		{"long stems", 0, func(w *api.Words) {
			w.Lexemes[0].Stem, w.Lexemes[1].Stem = strings.Repeat("a", 20000), strings.Repeat("a", 20000)
		}},
		{"stems that are not UTF-8", 0, func(w *api.Words) { w.Lexemes[0].Stem, w.Lexemes[1].Stem = "\xff\xc3", "\xc3" }},
		{"long affixes", 0, func(w *api.Words) {
			w.Paradigms[0].Slots[0] = []api.Affix{{Prefix: strings.Repeat("a", 20000), Suffix: strings.Repeat("\xff", 20000)}}
		}},
		{"many features", 0, func(w *api.Words) { w.Lexemes[0].Features = make([]api.Feature, 20000) }},
		{"many dimensions", 0, func(w *api.Words) { w.Paradigms[0].Dimensions = make([]api.Dimension, 20000) }},
		{"many values", 0, func(w *api.Words) { w.Paradigms[0].Dimensions[0].Values = make([]string, 20000) }},
		{"many slots", 0, func(w *api.Words) { w.Paradigms[0].Slots = make([][]api.Affix, 20000) }},
		{"many affixes", 0, func(w *api.Words) { w.Paradigms[0].Slots[0] = make([]api.Affix, 20000) }},
		{"many letters", 0, func(w *api.Words) { w.Alphabet = make([]api.Letter, 20000) }},
		{"many rules", 0, func(w *api.Words) { w.Rules = make([]api.Rule, 20000) }},
		{"many paradigms", 0, func(w *api.Words) { w.Paradigms = make([]api.Paradigm, 20000) }},
		{"many lexemes", 0, func(w *api.Words) { w.Lexemes = make([]api.Lexeme, 20000) }},
		{"many items", 0, func(w *api.Words) { w.Rules[0].Left = make([]api.Item, 20000) }},
		{"a rule that inserts much", 0, func(w *api.Words) { w.Rules[0] = api.Rule{To: strings.Repeat("a", 20000)} }},
	}
	for _, f := range append(faults(), more...) {
		w := rich()
		f.change(&w)
		for _, cell := range [][]api.Feature{nil, record("number=pl"), make([]api.Feature, 10)} {
			callAll(w, "boat", "kaet", cell)
			callAll(w, "boats", "\xff", cell)
			callAll(w, "", "", cell)
		}
		if f.want == api.OK && Check(w) == api.OK {
			t.Errorf("%s: valid", f.name)
		}
	}
}

func TestRandomInvalidMorphologies(t *testing.T) { // P1 of DOC.md
	source := rand.New(rand.NewSource(3))
	invalid, pairs := 0, 0
	for range 2000 {
		w := rich()
		for range 1 + source.Intn(4) {
			f := one(source, faults()...)
			f.change(&w)
		}
		if source.Intn(2) == 0 {
			w = randomWords(source)
		}
		if Check(w) != api.OK {
			invalid++
		}
		pairs += callAll(w, one(source, "boat", "x0", "y", ""), spelling(source, 5), record(one(source, "", "n=sg", "number=sg")))
	}
	if invalid < 500 || pairs < 1000 {
		t.Errorf("%d invalid morphologies, %d pairs", invalid, pairs)
	}
}
