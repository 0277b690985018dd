package morphology

import (
	"slices"

	"pentaglot/alphabet"
	"pentaglot/api"
	"pentaglot/lexicon"
	"pentaglot/paradigm"
	"pentaglot/rewrite"
)

// Check returns OK if the alphabet, rules, paradigms (with distinct names) and lexemes are valid, each lexeme's paradigm exists (an empty name means that the stem is the only form), and no inherent feature has the name of a dimension.
func Check(w api.Words) api.Errno {
	if !hasValidParts(w) {
		return api.ErrArgument
	}
	g := newGenerator(w)
	switch {
	// The generator has a paradigm more, and one for each name.
	case len(g.byName) <= len(w.Paradigms):
		return api.ErrExists
	case slices.ContainsFunc(w.Lexemes, g.lacksParadigm):
		return api.ErrNotFound
	case slices.ContainsFunc(w.Lexemes, g.contradictsCells):
		return api.ErrConflict
	}
	return api.OK
}

// hasValidParts reports whether the alphabet, the rules, the paradigms and the lexemes are valid, each list for itself.
func hasValidParts(w api.Words) bool {
	if !alphabet.Valid(w.Alphabet) || len(w.Rules) > api.MaxRules || len(w.Paradigms) > api.MaxParadigms {
		return false
	}
	for _, r := range w.Rules {
		if !rewrite.Valid(w.Alphabet, r) {
			return false
		}
	}
	for _, p := range w.Paradigms {
		if !paradigm.Valid(w.Alphabet, p) {
			return false
		}
	}
	return lexicon.Valid(w.Alphabet, w.Lexemes)
}

// lacksParadigm reports whether there is no paradigm with the name that a lexeme gives.
func (g generator) lacksParadigm(x api.Lexeme) bool {
	_, ok := g.byName[x.Paradigm]
	return !ok
}

// contradictsCells reports whether a feature of a lexeme has the name of a dimension of its paradigm. A cell has a value of that dimension already, which may be another one.
func (g generator) contradictsCells(x api.Lexeme) bool {
	for _, d := range g.byName[x.Paradigm].Dimensions {
		if slices.ContainsFunc(x.Features, func(f api.Feature) bool { return f.Name == d.Name }) {
			return true
		}
	}
	return false
}
