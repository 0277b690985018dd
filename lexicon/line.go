package lexicon

import (
	"cmp"
	"strings"

	"pentaglot/api"
	"pentaglot/feature"
)

// nothing stands for an empty stem or paradigm in a line.
const nothing = "-"

// The parts of a line that every lexeme has, and all parts (the text of the features has blanks of its own).
const (
	leastParts = 4
	allParts   = 5
)

// Line returns the line of a lexeme: ID, category, stem, paradigm and features, separated by blanks, with - for an empty stem or paradigm; "" if no line has this lexeme.
func Line(x api.Lexeme) string {
	if !hasLine(x) {
		return ""
	}
	parts := []string{x.ID, x.Category, cmp.Or(x.Stem, nothing), cmp.Or(x.Paradigm, nothing)}
	if len(x.Features) > 0 {
		parts = append(parts, feature.Text(x.Features))
	}
	return joined(parts...)
}

// ParseLine returns the lexeme with this line.
func ParseLine(s string) (api.Lexeme, api.Errno) {
	parts := strings.SplitN(s, " ", allParts)
	if len(parts) < leastParts {
		return api.Lexeme{}, api.ErrSyntax
	}
	x := api.Lexeme{ID: parts[0], Category: parts[1], Stem: given(parts[2]), Paradigm: given(parts[3])}
	if len(parts) == allParts {
		features, e := feature.Parse(parts[4])
		if e != api.OK {
			return api.Lexeme{}, e
		}
		x.Features = features
	}
	// Line writes what has been read differently if something is missing, such as the stem between two blanks, or the features behind the last one.
	if Line(x) != s {
		return api.Lexeme{}, api.ErrSyntax
	}
	return x, api.OK
}

// hasLine reports whether x can be written as a line and read again.
func hasLine(x api.Lexeme) bool {
	return isNamed(x) && x.Stem != nothing && !strings.ContainsAny(x.Stem, " \n") && x.Paradigm != nothing && feature.Valid(x.Features)
}

// joined returns the parts with a blank between them.
func joined(parts ...string) string { return strings.Join(parts, " ") }

// given returns the stem or paradigm that is written as s.
func given(s string) string {
	if s == nothing {
		return ""
	}
	return s
}
