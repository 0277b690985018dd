package morphology

import (
	"slices"

	"pentaglot/api"
)

// copied returns a copy of a morphology that shares no memory with it.
func copied(w api.Words) api.Words {
	out := api.Words{Alphabet: slices.Clone(w.Alphabet)}
	for _, r := range w.Rules {
		r.Left, r.Right = slices.Clone(r.Left), slices.Clone(r.Right)
		out.Rules = append(out.Rules, r)
	}
	for _, p := range w.Paradigms {
		out.Paradigms = append(out.Paradigms, copiedParadigm(p))
	}
	for _, x := range w.Lexemes {
		x.Features = slices.Clone(x.Features)
		out.Lexemes = append(out.Lexemes, x)
	}
	return out
}

// copiedParadigm returns a copy of a paradigm that shares no memory with it.
func copiedParadigm(p api.Paradigm) api.Paradigm {
	out := api.Paradigm{Name: p.Name}
	for _, d := range p.Dimensions {
		d.Values = slices.Clone(d.Values)
		out.Dimensions = append(out.Dimensions, d)
	}
	for _, slot := range p.Slots {
		var own []api.Affix
		for _, x := range slot {
			x.When = slices.Clone(x.When)
			own = append(own, x)
		}
		out.Slots = append(out.Slots, own)
	}
	return out
}
