package morphology

import (
	"iter"

	"pentaglot/api"
	"pentaglot/paradigm"
	"pentaglot/rewrite"
)

// generator is a morphology whose paradigms are found by their names.
type generator struct {
	api.Words
	byName map[string]api.Paradigm
}

// newGenerator returns the generator of a morphology.
func newGenerator(w api.Words) generator {
	// A lexeme without a paradigm has the cell and the form of a paradigm without dimensions and slots, so that no function treats it differently.
	byName := map[string]api.Paradigm{"": {Name: "bare"}}
	for _, p := range w.Paradigms {
		byName[p.Name] = p
	}
	return generator{w, byName}
}

// cells iterates over the cells of a lexeme.
func (g generator) cells(x api.Lexeme) iter.Seq[[]api.Feature] {
	p := g.byName[x.Paradigm]
	return func(yield func([]api.Feature) bool) {
		for n := range paradigm.Count(p) {
			cell, ok := paradigm.Cell(p, n)
			if !ok || !yield(cell) {
				return
			}
		}
	}
}

// surface returns the surface form of a lexeme in a cell; ErrArgument if it is not one of its cells, ErrTooLarge if the cell has no surface form.
func (g generator) surface(x api.Lexeme, cell []api.Feature) (string, api.Errno) {
	underlying, e := paradigm.Underlying(g.byName[x.Paradigm], x.Stem, x.Features, cell)
	if e != api.OK {
		return "", e
	}
	return rewrite.Cascade(g.Alphabet, g.Rules, underlying)
}

// forms returns the surface forms of a lexeme in all its cells.
func (g generator) forms(x api.Lexeme) ([]string, api.Errno) {
	var out []string
	for cell := range g.cells(x) {
		s, e := g.surface(x, cell)
		if e != api.OK {
			return nil, e
		}
		out = append(out, s)
	}
	return out, api.OK
}

// pairs yields the surface forms of all lexemes in all their cells, with their analyses.
func (g generator) pairs(yield func(string, api.Analysis) bool) {
	for _, x := range g.Lexemes {
		for cell := range g.cells(x) {
			s, e := g.surface(x, cell)
			if e == api.OK && !yield(s, api.Analysis{Lexeme: x.ID, Cell: cell}) {
				return
			}
		}
	}
}
