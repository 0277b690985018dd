package paradigm

import (
	"fmt"
	"math/rand"
	"regexp"
	"slices"
	"strings"
	"unicode/utf8"

	"pentaglot/alphabet"
	"pentaglot/api"
	"pentaglot/feature"
)

// letters are those of the chapter's examples.
func letters() []api.Letter {
	return []api.Letter{{Rune: 'a', Classes: api.Vowel}, {Rune: 'e', Classes: api.Vowel}, {Rune: 'k'}, {Rune: 't'}}
}

// record returns the record with this text.
func record(s string) []api.Feature {
	r, e := feature.Parse(s)
	if e != api.OK {
		panic(s)
	}
	return r
}

// list returns the features of a text, in the order of the text.
func list(s string) []api.Feature {
	var out []api.Feature
	for _, part := range strings.Fields(s) {
		name, value, _ := strings.Cut(part, "=")
		out = append(out, api.Feature{Name: name, Value: value})
	}
	return out
}

// dimensions returns a dimension for each text such as "number sg pl".
func dimensions(texts ...string) []api.Dimension {
	var out []api.Dimension
	for _, s := range texts {
		words := strings.Split(s, " ")
		out = append(out, api.Dimension{Name: words[0], Values: words[1:]})
	}
	return out
}

// when returns an affix.
func when(s, prefix, suffix string) api.Affix {
	return api.Affix{When: record(s), Prefix: prefix, Suffix: suffix}
}

// noun is the paradigm of the chapter's examples.
func noun() api.Paradigm {
	return api.Paradigm{
		Name:       "noun",
		Dimensions: dimensions("number sg pl", "case nom acc"),
		Slots: [][]api.Affix{
			{when("number=pl", "", "ke"), when("", "", "e")},
			{when("case=acc gender=f", "a", ""), when("case=acc", "", "t")},
		},
	}
}

// values returns n names of values, separated by blanks.
func values(n int) string {
	var out []string
	for i := range n {
		out = append(out, fmt.Sprint("v", i))
	}
	return strings.Join(out, " ")
}

// largest returns a paradigm with as many cells, slots and affixes as possible.
func largest() api.Paradigm {
	p := api.Paradigm{Name: "largest"}
	for _, name := range []string{"d ", "b ", "a ", "c "} {
		p.Dimensions = append(p.Dimensions, dimensions(name+values(8))...)
	}
	for range 8 {
		var slot []api.Affix
		for i := range 64 {
			slot = append(slot, when(fmt.Sprintf("a=v%d b=v%d", i/8, i%8), "", "a"))
		}
		p.Slots = append(p.Slots, slot)
	}
	return p
}

// deep returns a copy of p that shares no memory with it.
func deep(p api.Paradigm) api.Paradigm {
	p.Dimensions = slices.Clone(p.Dimensions)
	for i := range p.Dimensions {
		p.Dimensions[i].Values = slices.Clone(p.Dimensions[i].Values)
	}
	p.Slots = slices.Clone(p.Slots)
	for i := range p.Slots {
		p.Slots[i] = slices.Clone(p.Slots[i])
		for k := range p.Slots[i] {
			p.Slots[i][k].When = slices.Clone(p.Slots[i][k].When)
		}
	}
	return p
}

// nameShape is the shape of names of chapter 2.
var nameShape = regexp.MustCompile(`\A[a-z0-9-]+\z`)

// validDimensionsBy is the definition of valid dimensions.
func validDimensionsBy(dims []api.Dimension) bool {
	names := map[string]bool{}
	for _, d := range dims {
		seen := map[string]bool{}
		for _, v := range d.Values {
			if !nameShape.MatchString(v) || seen[v] {
				return false
			}
			seen[v] = true
		}
		if !nameShape.MatchString(d.Name) || names[d.Name] || len(d.Values) < 1 || len(d.Values) > 8 {
			return false
		}
		names[d.Name] = true
	}
	return len(dims) <= 4
}

// validBy is the definition of valid paradigms.
func validBy(a []api.Letter, p api.Paradigm) bool {
	if !alphabet.Valid(a) || !nameShape.MatchString(p.Name) || !validDimensionsBy(p.Dimensions) || len(p.Slots) > 8 {
		return false
	}
	for _, slot := range p.Slots {
		for _, x := range slot {
			if len(slot) > 64 || !feature.Valid(x.When) || !alphabet.IsWord(a, x.Prefix) || !alphabet.IsWord(a, x.Suffix) {
				return false
			}
		}
	}
	return true
}

// cellsBy is the definition of cells.
func cellsBy(p api.Paradigm) [][]api.Feature { return slices.Collect(feature.All(p.Dimensions)) }

// mergeBy is the definition of merged records, from the features of both as a map.
func mergeBy(p api.Paradigm, cell, inherent []api.Feature) ([]api.Feature, bool) {
	isCell := slices.ContainsFunc(cellsBy(p), func(c []api.Feature) bool { return slices.Equal(c, cell) })
	if !isCell || !feature.Valid(inherent) {
		return nil, false
	}
	both := map[string]string{}
	for _, f := range slices.Concat(cell, inherent) {
		if v, ok := both[f.Name]; ok && v != f.Value {
			return nil, false
		}
		both[f.Name] = f.Value
	}
	var out []api.Feature
	for name, value := range both {
		out = append(out, api.Feature{Name: name, Value: value})
	}
	slices.SortFunc(out, func(f, g api.Feature) int { return strings.Compare(f.Name, g.Name) })
	return out, true
}

// chosenBy is the definition of chosen affixes.
func chosenBy(p api.Paradigm, slot int, r []api.Feature) int {
	if slot < 0 || slot >= len(p.Slots) {
		return -1
	}
	for n, x := range p.Slots[slot] {
		missing := func(f api.Feature) bool { return !slices.Contains(r, f) }
		if !slices.ContainsFunc(x.When, missing) {
			return n
		}
	}
	return -1
}

// underlyingBy is the definition of underlying forms.
func underlyingBy(p api.Paradigm, stem string, inherent, cell []api.Feature) (string, api.Errno) {
	merged, ok := mergeBy(p, cell, inherent)
	if !ok {
		return "", api.ErrArgument
	}
	for i, slot := range p.Slots {
		if n := chosenBy(p, i, merged); n >= 0 {
			stem = slot[n].Prefix + stem + slot[n].Suffix
		}
	}
	if utf8.RuneCountInString(stem) > 40 {
		return "", api.ErrTooLarge
	}
	return stem, api.OK
}

// unusedBy is the definition of unused affixes.
func unusedBy(p api.Paradigm, inherent ...[]api.Feature) [][2]int {
	var out [][2]int
	for i, slot := range p.Slots {
		for n := range slot {
			used := false
			for _, cell := range cellsBy(p) {
				for _, r := range inherent {
					merged, ok := mergeBy(p, cell, r)
					used = used || ok && chosenBy(p, i, merged) == n
				}
			}
			if !used {
				out = append(out, [2]int{i, n})
			}
		}
	}
	return out
}

// randomRecord returns a valid record over some names, often those of dimensions.
func randomRecord(source *rand.Rand) []api.Feature {
	var out []api.Feature
	for _, name := range []string{"case", "gender", "number"} {
		if source.Intn(3) == 0 {
			out = append(out, api.Feature{Name: name, Value: []string{"x", "y"}[source.Intn(2)]})
		}
	}
	return out
}

// randomParadigm returns a valid paradigm with few values, so that records often fit.
func randomParadigm(source *rand.Rand) api.Paradigm {
	p := api.Paradigm{Name: "p"}
	for _, i := range source.Perm(3)[:source.Intn(4)] {
		p.Dimensions = append(p.Dimensions, dimensions([]string{"case ", "number ", "person "}[i]+[]string{"x", "x y", "y x", "z x y"}[source.Intn(4)])...)
	}
	for range source.Intn(4) {
		var slot []api.Affix
		for range source.Intn(4) {
			slot = append(slot, api.Affix{When: randomRecord(source), Prefix: strings.Repeat("a", source.Intn(3)), Suffix: strings.Repeat("t", source.Intn(8))})
		}
		p.Slots = append(p.Slots, slot)
	}
	return p
}

// randomList returns a list of features that is often no cell and no record.
func randomList(source *rand.Rand) []api.Feature {
	var out []api.Feature
	for range source.Intn(5) {
		out = append(out, api.Feature{Name: []string{"case", "number", "person", "", "A"}[source.Intn(5)], Value: []string{"x", "y", "z", ""}[source.Intn(4)]})
	}
	return out
}
