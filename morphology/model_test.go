package morphology

import (
	"fmt"
	"math/rand"
	"reflect"
	"slices"
	"strings"
	"unicode/utf8"

	"pentaglot/alphabet"
	"pentaglot/api"
	"pentaglot/feature"
	"pentaglot/lexicon"
	"pentaglot/paradigm"
	"pentaglot/rewrite"
)

// letters are those of the chapter's examples.
func letters() []api.Letter {
	return []api.Letter{{Rune: 'a', Classes: api.Vowel}, {Rune: 'e', Classes: api.Vowel}, {Rune: 't', Classes: api.Consonant}, {Rune: 'k', Classes: api.Consonant}}
}

// record returns the record with this text.
func record(s string) []api.Feature {
	r, e := feature.Parse(s)
	if e != api.OK {
		panic(s)
	}
	return r
}

// dimensions returns a dimension for each text such as "number sg pl".
func dimensions(texts ...string) []api.Dimension {
	var out []api.Dimension
	for _, s := range texts {
		words := strings.Split(s, " ")
		out = append(out, api.Dimension{Name: words[0], Values: words[1:]})
	}
	return out
}

// when returns an affix.
func when(s, prefix, suffix string) api.Affix {
	return api.Affix{When: record(s), Prefix: prefix, Suffix: suffix}
}

// noun returns the paradigm of the chapter's examples.
func noun() api.Paradigm {
	return api.Paradigm{Name: "noun", Dimensions: dimensions("number sg pl"), Slots: [][]api.Affix{{when("number=pl", "", "t")}}}
}

// example returns the morphology of the chapter's examples.
func example() api.Words {
	return api.Words{
		Alphabet:  letters(),
		Paradigms: []api.Paradigm{noun()},
		Lexemes: []api.Lexeme{
			{ID: "boat", Category: "n", Stem: "kae", Paradigm: "noun"},
			{ID: "boats", Category: "n", Stem: "kaet"},
			{ID: "tea", Category: "n", Stem: "te", Paradigm: "noun"},
		},
	}
}

// rich returns a valid morphology in which every list has something.
func rich() api.Words {
	w := example()
	w.Rules = []api.Rule{
		{From: 'a', To: "e", Left: []api.Item{{Mask: api.Consonant}}, Right: []api.Item{{Letters: "e"}}},
		{From: 0, To: "a", Left: []api.Item{{Letters: "t"}}, Right: []api.Item{{Letters: "t"}}},
	}
	w.Paradigms = append(w.Paradigms, api.Paradigm{
		Name:       "verb",
		Dimensions: dimensions("person 1 2 3", "mood fact wish"),
		Slots: [][]api.Affix{
			{when("mood=wish strong=yes", "ke", ""), when("mood=wish", "k", "")},
			{when("person=1", "", "a"), when("person=3", "", "t")},
		},
	})
	w.Lexemes = append(w.Lexemes,
		api.Lexeme{ID: "go", Category: "v", Stem: "at", Paradigm: "verb", Features: record("strong=yes")},
		api.Lexeme{ID: "stay", Category: "v", Stem: "at", Paradigm: "verb"},
		api.Lexeme{ID: "at", Category: "p", Stem: "at", Features: record("number=sg")})
	return w
}

// deep returns a copy of w that shares no memory with it.
func deep(w api.Words) api.Words {
	return deepValue(reflect.ValueOf(w)).Interface().(api.Words)
}

// deepValue returns a copy of a value of structs, slices and others without pointers.
func deepValue(v reflect.Value) reflect.Value {
	out := reflect.New(v.Type()).Elem()
	switch v.Kind() {
	case reflect.Struct:
		for i := range v.NumField() {
			out.Field(i).Set(deepValue(v.Field(i)))
		}
	case reflect.Slice:
		if v.IsNil() {
			return out
		}
		out = reflect.MakeSlice(v.Type(), v.Len(), v.Len())
		for i := range v.Len() {
			out.Index(i).Set(deepValue(v.Index(i)))
		}
	default:
		out.Set(v)
	}
	return out
}

// overwrite sets everything that can be changed in the memory of w.
func overwrite(w api.Words) { overwriteValue(reflect.ValueOf(w)) }

// overwriteValue sets the elements of all slices to zero values, the inner ones first.
func overwriteValue(v reflect.Value) {
	switch v.Kind() {
	case reflect.Struct:
		for i := range v.NumField() {
			overwriteValue(v.Field(i))
		}
	case reflect.Slice:
		for i := range v.Len() {
			overwriteValue(v.Index(i))
			v.Index(i).SetZero()
		}
	}
}

// checkBy is the definition of valid morphologies.
func checkBy(w api.Words) api.Errno {
	a := w.Alphabet
	if !alphabet.Valid(a) || len(w.Rules) > 64 || len(w.Paradigms) > 32 || !lexicon.Valid(a, w.Lexemes) {
		return api.ErrArgument
	}
	for _, r := range w.Rules {
		if !rewrite.Valid(a, r) {
			return api.ErrArgument
		}
	}
	for _, p := range w.Paradigms {
		if !paradigm.Valid(a, p) {
			return api.ErrArgument
		}
	}
	for i, p := range w.Paradigms {
		for _, q := range w.Paradigms[:i] {
			if p.Name == q.Name {
				return api.ErrExists
			}
		}
	}
	conflict := false
	for _, x := range w.Lexemes {
		found := x.Paradigm == ""
		for _, p := range w.Paradigms {
			if p.Name != x.Paradigm {
				continue
			}
			found = true
			for _, d := range p.Dimensions {
				_, has := feature.Get(x.Features, d.Name)
				conflict = conflict || has
			}
		}
		if !found {
			return api.ErrNotFound
		}
	}
	if conflict {
		return api.ErrConflict
	}
	return api.OK
}

// formBy is a cell of a lexeme with its surface form, if there is one.
type formBy struct {
	cell []api.Feature
	form string
	ok   bool
}

// formsBy is the definition of the cells of a lexeme and of their surface forms.
func formsBy(w api.Words, x api.Lexeme) []formBy {
	if x.Paradigm == "" {
		s, ok := cascadeBy(w, x.Stem)
		return []formBy{{nil, s, ok}}
	}
	i := slices.IndexFunc(w.Paradigms, func(p api.Paradigm) bool { return p.Name == x.Paradigm })
	var out []formBy
	for cell := range feature.All(w.Paradigms[i].Dimensions) {
		s, ok := cascadeBy(w, underlyingBy(w.Paradigms[i], x, cell))
		out = append(out, formBy{cell, s, ok})
	}
	return out
}

// underlyingBy is the definition of underlying forms, of any length.
func underlyingBy(p api.Paradigm, x api.Lexeme, cell []api.Feature) string {
	form := x.Stem
	for _, slot := range p.Slots {
		for _, y := range slot {
			missing := func(f api.Feature) bool { return !slices.Contains(cell, f) && !slices.Contains(x.Features, f) }
			if !slices.ContainsFunc(y.When, missing) {
				form = y.Prefix + form + y.Suffix
				break
			}
		}
	}
	return form
}

// cascadeBy is the definition of surface forms; false if the form or the result of a rule is too long.
func cascadeBy(w api.Words, form string) (string, bool) {
	if utf8.RuneCountInString(form) > 40 {
		return "", false
	}
	for _, r := range w.Rules {
		s, e := rewrite.Apply(w.Alphabet, r, form)
		if e != api.OK {
			return "", false
		}
		form = s
	}
	return form, true
}

// pair is a surface form with its analysis, as texts.
type pair struct{ form, lexeme, cell string }

// allBy is the definition of the pairs of a valid morphology, in the order of analyses.
func allBy(w api.Words) []pair {
	var out []pair
	for _, x := range w.Lexemes {
		for _, f := range formsBy(w, x) {
			if f.ok {
				out = append(out, pair{f.form, x.ID, feature.Text(f.cell)})
			}
		}
	}
	return out
}

// all returns the pairs that All yields.
func all(w api.Words) []pair {
	var out []pair
	for s, x := range All(w) {
		out = append(out, pair{s, x.Lexeme, feature.Text(x.Cell)})
	}
	return out
}

// one returns one of the choices.
func one[T any](source *rand.Rand, choices ...T) T { return choices[source.Intn(len(choices))] }

// spelling returns a word of at most n letters.
func spelling(source *rand.Rand, n int) string {
	s := ""
	for range source.Intn(n + 1) {
		s += one(source, "a", "e", "t", "k")
	}
	return s
}

// items returns a pattern.
func items(source *rand.Rand) []api.Item {
	var out []api.Item
	for range source.Intn(3) {
		out = append(out, api.Item{Mask: one(source, 0, api.Vowel, api.Consonant), Letters: one(source, "", "", "t", "ae"), Negated: source.Intn(4) == 0, Repeated: source.Intn(4) == 0})
	}
	return out
}

// randomWords returns a morphology that is valid in most cases, with long stems in some.
func randomWords(source *rand.Rand) api.Words {
	w := api.Words{Alphabet: letters()}
	for range source.Intn(4) {
		w.Rules = append(w.Rules, api.Rule{From: one[rune](source, 0, 'a', 'e', 't', 'k'), To: spelling(source, 2), Left: items(source), Right: items(source), Initial: source.Intn(4) == 0, Final: source.Intn(4) == 0})
	}
	names := []string{"noun", "verb", "name"}
	for i := range source.Intn(4) {
		w.Paradigms = append(w.Paradigms, randomParadigm(source, names[i]))
		if source.Intn(40) == 0 {
			w.Paradigms[i].Name = one(source, "noun", "verb", "", "a_b")
		}
	}
	for i := range source.Intn(6) {
		x := api.Lexeme{ID: fmt.Sprint("x", i), Category: "c", Stem: spelling(source, one(source, 3, 3, 40))}
		if n := source.Intn(len(w.Paradigms) + 1); n > 0 {
			x.Paradigm = w.Paradigms[n-1].Name
		}
		if source.Intn(60) == 0 {
			x.Paradigm, x.ID = one(source, "noun", "verb", "name"), one(source, "x0", "y")
		}
		x.Features = record(one(source, "", "", "g=f", "g=m", "g=f s=1"))
		if source.Intn(60) == 0 {
			x.Features = record("n=sg")
		}
		w.Lexemes = append(w.Lexemes, x)
	}
	return w
}

// randomParadigm returns a valid paradigm.
func randomParadigm(source *rand.Rand, name string) api.Paradigm {
	p := api.Paradigm{Name: name, Dimensions: one(source, nil, dimensions("n sg pl"), dimensions("n sg pl", "c x y z"), dimensions("p 1 2 3"))}
	for range source.Intn(3) {
		var slot []api.Affix
		for range source.Intn(4) {
			slot = append(slot, when(one(source, "", "n=sg", "n=pl", "c=x", "c=y n=pl", "g=f", "g=f n=pl", "p=1", "s=1"), spelling(source, 2), spelling(source, 2)))
		}
		p.Slots = append(p.Slots, slot)
	}
	return p
}
