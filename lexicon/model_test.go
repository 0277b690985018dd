package lexicon

import (
	"fmt"
	"math/rand"
	"reflect"
	"regexp"
	"slices"
	"strings"

	"pentaglot/alphabet"
	"pentaglot/api"
	"pentaglot/feature"
)

// letters are those of the chapter's examples.
func letters() []api.Letter {
	return []api.Letter{{Rune: 'a', Classes: api.Vowel}, {Rune: 'e', Classes: api.Vowel}, {Rune: 'b'}, {Rune: 't'}}
}

// distinct returns n letters with distinct runes, the first of which are those of the examples.
func distinct(n int) []api.Letter {
	out := letters()
	for i := len(out); i < n; i++ {
		out = append(out, api.Letter{Rune: rune(0x100 + i)})
	}
	return out
}

// record returns the record with this text.
func record(s string) []api.Feature {
	r, e := feature.Parse(s)
	if e != api.OK {
		panic(s)
	}
	return r
}

// example returns the lexemes of the chapter's examples.
func example() []api.Lexeme {
	return []api.Lexeme{
		{ID: "x1", Category: "n", Stem: "bat", Paradigm: "noun", Features: record("gender=f")},
		{ID: "x2", Category: "n", Stem: "tab", Paradigm: "noun"},
		{ID: "x3", Category: "v", Stem: "bat"},
	}
}

// many returns n lexemes with distinct IDs, which begin with prefix.
func many(prefix string, n int) []api.Lexeme {
	var out []api.Lexeme
	for i := range n {
		out = append(out, api.Lexeme{ID: fmt.Sprint(prefix, i), Category: "n", Stem: "bat"})
	}
	return out
}

// ids returns the IDs of a list, separated by blanks.
func ids(list []api.Lexeme) string {
	var out []string
	for _, x := range list {
		out = append(out, x.ID)
	}
	return strings.Join(out, " ")
}

// deep returns a copy of a list that shares no memory with it.
func deep(list []api.Lexeme) []api.Lexeme {
	var out []api.Lexeme
	for _, x := range list {
		x.Features = append([]api.Feature{}, x.Features...)
		out = append(out, x)
	}
	return out
}

// equal reports whether two lists have the same lexemes, where nil and empty features are the same.
func equal(a, b []api.Lexeme) bool { return reflect.DeepEqual(deep(a), deep(b)) }

// The shapes of names and of lines.
var (
	nameShape = regexp.MustCompile(`\A[a-z0-9_-]+\z`)
	lineShape = regexp.MustCompile(`\A[a-z0-9_-]+ [a-z0-9_-]+ [^ \n]+ [a-z0-9_-]+((?: [a-z0-9-]+=[a-z0-9-]+)*)\z`)
)

// isNameBy is the definition of names.
func isNameBy(s string) bool { return nameShape.MatchString(s) }

// validBy is the definition of lexicons.
func validBy(a []api.Letter, list []api.Lexeme) bool {
	for i, x := range list {
		named := isNameBy(x.ID) && isNameBy(x.Category) && (x.Paradigm == "" || isNameBy(x.Paradigm))
		if !named || !alphabet.IsWord(a, x.Stem) || !feature.Valid(x.Features) {
			return false
		}
		for _, y := range list[:i] {
			if x.ID == y.ID {
				return false
			}
		}
	}
	return alphabet.Valid(a) && len(list) <= 256
}

// filterBy returns the lexemes that pass the test.
func filterBy(list []api.Lexeme, test func(api.Lexeme) bool) []api.Lexeme {
	var out []api.Lexeme
	for _, x := range list {
		if test(x) {
			out = append(out, x)
		}
	}
	return out
}

// withBy is the definition of With.
func withBy(list []api.Lexeme, features []api.Feature) []api.Lexeme {
	return filterBy(list, func(x api.Lexeme) bool {
		for _, f := range features {
			if !slices.Contains(x.Features, f) {
				return false
			}
		}
		return true
	})
}

// homonymsBy is the definition of Homonyms: the lexemes at whose place a stem occurs first begin the groups.
func homonymsBy(list []api.Lexeme) [][]string {
	var out [][]string
	for i, x := range list {
		same := func(y api.Lexeme) bool { return y.Stem == x.Stem }
		group := filterBy(list, same)
		if len(group) >= 2 && !slices.ContainsFunc(list[:i], same) {
			out = append(out, []string{})
			for _, y := range group {
				out[len(out)-1] = append(out[len(out)-1], y.ID)
			}
		}
	}
	return out
}

// mergeBy is the definition of Merge.
func mergeBy(a, b []api.Lexeme) ([]api.Lexeme, api.Errno) {
	for i, x := range b {
		if Index(a, x.ID) >= 0 || Index(b[:i], x.ID) >= 0 {
			return nil, api.ErrExists
		}
	}
	if len(a)+len(b) > 256 {
		return nil, api.ErrTooLarge
	}
	return append(slices.Clone(a), b...), api.OK
}

// lineBy is the definition of lines.
func lineBy(x api.Lexeme) string {
	has := isNameBy(x.ID) && isNameBy(x.Category) && x.Stem != "-" && !strings.Contains(x.Stem, " ") && !strings.Contains(x.Stem, "\n") && (x.Paradigm == "" || isNameBy(x.Paradigm) && x.Paradigm != "-") && feature.Valid(x.Features)
	if !has {
		return ""
	}
	s := x.ID + " " + x.Category + " "
	if x.Stem == "" {
		s += "-"
	}
	s += x.Stem + " "
	if x.Paradigm == "" {
		s += "-"
	}
	s += x.Paradigm
	for _, f := range x.Features {
		s += " " + f.Name + "=" + f.Value
	}
	return s
}

// isLineBy reports whether a lexeme has the line s, by the shape of lines.
func isLineBy(s string) bool {
	m := lineShape.FindStringSubmatch(s)
	if m == nil {
		return false
	}
	var names []string
	for _, f := range strings.Fields(m[1]) {
		names = append(names, strings.Split(f, "=")[0])
	}
	return len(names) <= 8 && slices.IsSorted(names) && len(slices.Compact(slices.Clone(names))) == len(names)
}

// one returns one of the strings.
func one(source *rand.Rand, list ...string) string { return list[source.Intn(len(list))] }

// randomFeatures returns a list that is often no record.
func randomFeatures(source *rand.Rand) []api.Feature {
	var out []api.Feature
	for range max(0, source.Intn(6)-2) {
		out = append(out, api.Feature{Name: one(source, "a", "b", "c", "a", "b", "c", "A"), Value: one(source, "1", "2", "1", "2", "")})
	}
	if source.Intn(2) == 0 {
		slices.SortFunc(out, func(f, g api.Feature) int { return strings.Compare(f.Name, g.Name) })
	}
	return out
}

// randomLexeme returns a lexeme that is often not valid.
func randomLexeme(source *rand.Rand) api.Lexeme {
	return api.Lexeme{
		ID:       one(source, "x", "y", "z", "x1", "y_2", "z-3", "-", "_", "0", "X", ""),
		Category: one(source, "n", "v", "n", "v", "n", "v", "-", "a_b", "", "n v", "é"),
		Stem:     one(source, "bat", "tab", "ab", "bat", "tab", "ab", "", "-", "--", "a b", "a\n", "a\tb", "é", "\xff", "ba="),
		Paradigm: one(source, "", "noun", "verb", "", "noun", "verb", "-", "n_1", "N", "a b"),
		Features: randomFeatures(source),
	}
}

// randomList returns a list of lexemes.
func randomList(source *rand.Rand, n int) []api.Lexeme {
	var out []api.Lexeme
	for range source.Intn(n + 1) {
		out = append(out, randomLexeme(source))
	}
	return out
}
