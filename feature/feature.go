// Package feature is layer 2: feature records and tables keyed by them. See shared/doc/02-feature.md.
package feature

import (
	"cmp"
	"slices"
	"strings"

	"pentaglot/api"
)

// Valid reports whether r is a valid record: at most MaxFeatures features, strictly ascending by name, with names and values of a to z, 0 to 9 and hyphens.
func Valid(r []api.Feature) bool {
	if len(r) > api.MaxFeatures {
		return false
	}
	for i, f := range r {
		if !isName(f.Name) || !isName(f.Value) {
			return false
		}
		if i > 0 && r[i-1].Name >= f.Name {
			return false
		}
	}
	return true
}

// Get returns the value of a feature.
func Get(r []api.Feature, name string) (string, bool) {
	for _, f := range r {
		if f.Name == name {
			return f.Value, true
		}
	}
	return "", false
}

// Unify returns the record with the features of both, or false if a name has two values.
func Unify(a, b []api.Feature) ([]api.Feature, bool) {
	out := make([]api.Feature, 0, len(a)+len(b))
	for len(a) > 0 && len(b) > 0 {
		order := strings.Compare(a[0].Name, b[0].Name)
		switch {
		case order < 0:
			out, a = append(out, a[0]), a[1:]
		case order > 0:
			out, b = append(out, b[0]), b[1:]
		case a[0].Value == b[0].Value:
			out, a, b = append(out, a[0]), a[1:], b[1:]
		default:
			return nil, false
		}
	}
	return append(append(out, a...), b...), true
}

// Subsumes reports whether every feature of a is in b.
func Subsumes(a, b []api.Feature) bool {
	for _, f := range a {
		b = skip(b, f.Name)
		if len(b) == 0 || b[0] != f {
			return false
		}
	}
	return true
}

// Meet returns the features that both records have.
func Meet(a, b []api.Feature) []api.Feature {
	var out []api.Feature
	for _, f := range a {
		b = skip(b, f.Name)
		if len(b) > 0 && b[0] == f {
			out = append(out, f)
		}
	}
	return out
}

// Project returns the features of r with these names.
func Project(r []api.Feature, names ...string) []api.Feature {
	return filter(r, among(names))
}

// Without returns the features of r without these names.
func Without(r []api.Feature, names ...string) []api.Feature {
	named := among(names)
	return filter(r, func(f api.Feature) bool { return !named(f) })
}

// Compare compares feature by feature, by name, then value; a proper prefix first.
func Compare(a, b []api.Feature) int {
	return slices.CompareFunc(a, b, compareFeatures)
}

// Text returns name=value for each feature, separated by blanks.
func Text(r []api.Feature) string {
	var out strings.Builder
	for i, f := range r {
		if i > 0 {
			out.WriteByte(' ')
		}
		out.WriteString(f.Name)
		out.WriteByte('=')
		out.WriteString(f.Value)
	}
	return out.String()
}

// Parse returns the valid record with this text.
func Parse(s string) ([]api.Feature, api.Errno) {
	if s == "" {
		return nil, api.OK
	}
	var out []api.Feature
	for part := range strings.SplitSeq(s, " ") {
		name, value, ok := strings.Cut(part, "=")
		if !ok {
			return nil, api.ErrSyntax
		}
		out = append(out, api.Feature{Name: name, Value: value})
	}
	if !Valid(out) {
		return nil, api.ErrSyntax
	}
	return out, api.OK
}

// isName reports whether s may be the name of a feature or of a value.
func isName(s string) bool {
	for i := range len(s) {
		c := s[i]
		if (c < 'a' || c > 'z') && (c < '0' || c > '9') && c != '-' {
			return false
		}
	}
	return s != ""
}

// skip returns r from the first feature on whose name does not come before name.
func skip(r []api.Feature, name string) []api.Feature {
	for len(r) > 0 && r[0].Name < name {
		r = r[1:]
	}
	return r
}

// among returns the test whether a feature has one of the names.
func among(names []string) func(api.Feature) bool {
	given := make(map[string]bool, len(names))
	for _, n := range names {
		given[n] = true
	}
	return func(f api.Feature) bool { return given[f.Name] }
}

// filter returns the features of r that pass the test.
func filter(r []api.Feature, test func(api.Feature) bool) []api.Feature {
	var out []api.Feature
	for _, f := range r {
		if test(f) {
			out = append(out, f)
		}
	}
	return out
}

// compareFeatures compares by name, then value.
func compareFeatures(f, g api.Feature) int {
	return cmp.Or(strings.Compare(f.Name, g.Name), strings.Compare(f.Value, g.Value))
}
