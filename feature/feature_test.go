package feature

import (
	"math/rand"
	"slices"
	"strings"
	"testing"

	"pentaglot/api"
)

// rec returns the record of a text such as "a=1 b=2"; it does not check it, so that it also makes lists that are no records.
func rec(text string) []api.Feature {
	var out []api.Feature
	for _, w := range strings.Fields(text) {
		name, value, _ := strings.Cut(w, "=")
		out = append(out, api.Feature{Name: name, Value: value})
	}
	return out
}

// small returns all records over the names a, b and c and the values 1 and 2.
func small() [][]api.Feature {
	var out [][]api.Feature
	for n := range 27 {
		var r []api.Feature
		for _, name := range []string{"a", "b", "c"} {
			if n%3 > 0 {
				r = append(r, api.Feature{Name: name, Value: []string{"1", "2"}[n%3-1]})
			}
			n /= 3
		}
		out = append(out, r)
	}
	return out
}

// long returns a record of n features.
func long(n int) []api.Feature {
	var out []api.Feature
	for i := range n {
		out = append(out, api.Feature{Name: string(rune('a' + i)), Value: "1"})
	}
	return out
}

func TestValid(t *testing.T) { // P2.1
	for _, c := range []struct {
		name string
		r    []api.Feature
		want bool
	}{
		{"nil", nil, true},
		{"empty", []api.Feature{}, true},
		{"one", rec("a=1"), true},
		{"two", rec("a=1 b=1"), true},
		{"descending", rec("b=1 a=1"), false},
		{"a name twice", rec("a=1 a=2"), false},
		{"a feature twice", rec("a=1 a=1"), false},
		{"descending at the end", rec("a=1 c=1 b=1"), false},
		{"byte order: hyphen, digit, letter", rec("-=1 0=1 9=1 a=1 z=1"), true},
		{"a prefix comes first", rec("a=1 aa=1"), true},
		{"8 features", long(8), true},
		{"9 features", long(9), false},
		{"empty name", []api.Feature{{Name: "", Value: "1"}}, false},
		{"empty value", []api.Feature{{Name: "a", Value: ""}}, false},
		{"capital in a name", rec("A=1"), false},
		{"capital in a value", rec("a=X"), false},
		{"all characters", rec("abcdefghijklmnopqrstuvwxyz-0123456789=0123456789-abcdefghijklmnopqrstuvwxyz"), true},
		{"hyphens", rec("-=--"), true},
		{"a long name", rec(strings.Repeat("a", 1000) + "=1"), true},
		{"equals sign", []api.Feature{{Name: "a", Value: "1=2"}}, false},
		{"blank", []api.Feature{{Name: "a b", Value: "1"}}, false},
		{"underscore", rec("a_b=1"), false},
		{"before a", rec("`=1"), false},
		{"after z", rec("a={"), false},
		{"before 0", rec("a=/"), false},
		{"after 9", rec("a=:"), false},
		{"letter that is not ASCII", rec("é=1"), false},
		{"wrong byte", rec("a=\xff"), false},
		{"zero byte", rec("a=\x00"), false},
		{"wrong second feature", rec("a=1 b="), false},
	} {
		if got := Valid(c.r); got != c.want {
			t.Errorf("%s: Valid = %v, want %v", c.name, got, c.want)
		}
	}
}

func TestGet(t *testing.T) { // P2.1
	r := rec("a=1 b=2 c=1")
	for _, c := range []struct {
		r           []api.Feature
		name, value string
		ok          bool
	}{
		{r, "a", "1", true}, {r, "b", "2", true}, {r, "c", "1", true}, {r, "d", "", false}, {r, "", "", false}, {r, "aa", "", false},
		{nil, "a", "", false}, {[]api.Feature{{Name: "", Value: ""}}, "", "", true}, {long(20), "t", "1", true},
	} {
		if got, ok := Get(c.r, c.name); got != c.value || ok != c.ok {
			t.Errorf("Get(%q, %q) = %q, %v, want %q, %v", Text(c.r), c.name, got, ok, c.value, c.ok)
		}
	}
}

func TestUnify(t *testing.T) { // P2.2
	for _, c := range []struct {
		a, b, want string
		ok         bool
	}{
		{"case=dative number=dual", "gender=f number=dual", "case=dative gender=f number=dual", true},
		{"case=dative number=dual", "case=genitive", "", false},
		{"", "", "", true},
		{"a=1", "", "a=1", true},
		{"", "a=1", "a=1", true},
		{"a=1", "a=1", "a=1", true},
		{"a=1", "a=2", "", false},
		{"a=1", "b=2", "a=1 b=2", true},
		{"b=2", "a=1", "a=1 b=2", true},
		{"a=1 c=3 e=5", "b=2 d=4 f=6", "a=1 b=2 c=3 d=4 e=5 f=6", true},
		{"a=1 z=1", "b=2 z=2", "", false},
		{"a=1 b=2 c=3", "c=3 d=4", "a=1 b=2 c=3 d=4", true},
		{"A=x_y", "B=ü", "A=x_y B=ü", true}, // a record need not be valid
	} {
		got, ok := Unify(rec(c.a), rec(c.b))
		if Text(got) != c.want || ok != c.ok {
			t.Errorf("Unify(%q, %q) = %q, %v, want %q, %v", c.a, c.b, Text(got), ok, c.want, c.ok)
		}
		if !ok && got != nil {
			t.Errorf("Unify(%q, %q) = %v, want nil", c.a, c.b, got)
		}
	}
	if got, ok := Unify(long(20), long(26)); !ok || !slices.Equal(got, long(26)) {
		t.Errorf("Unify of long records = %q, %v", Text(got), ok)
	}
}

func TestSubsumes(t *testing.T) { // P2.2
	for _, c := range []struct {
		a, b string
		want bool
	}{
		{"gender=f number=dual", "case=dative gender=f number=dual", true},
		{"case=dative gender=f number=dual", "gender=f number=dual", false},
		{"", "", true}, {"", "a=1", true}, {"a=1", "", false}, {"a=1", "a=1", true}, {"a=1", "a=2", false},
		{"b=1", "a=1 b=1 c=1", true}, {"a=1 c=1", "a=1 b=1 c=1", true}, {"a=1 d=1", "a=1 b=1 c=1", false}, {"a=1 b=1", "a=1 c=1", false},
		{"a=1 c=2", "a=1 b=1 c=1", false}, {"0=1", "a=1", false},
	} {
		if got := Subsumes(rec(c.a), rec(c.b)); got != c.want {
			t.Errorf("Subsumes(%q, %q) = %v, want %v", c.a, c.b, got, c.want)
		}
	}
}

func TestMeet(t *testing.T) { // P2.2
	for _, c := range []struct{ a, b, want string }{
		{"case=dative number=dual", "gender=f number=dual", "number=dual"},
		{"", "", ""}, {"a=1", "", ""}, {"", "a=1", ""}, {"a=1", "a=1", "a=1"}, {"a=1", "a=2", ""},
		{"a=1 b=1 c=1", "a=1 b=2 c=1", "a=1 c=1"}, {"a=1 c=1 e=1", "b=1 c=1 d=1 e=1", "c=1 e=1"}, {"a=1", "b=1", ""},
	} {
		if got := Text(Meet(rec(c.a), rec(c.b))); got != c.want {
			t.Errorf("Meet(%q, %q) = %q, want %q", c.a, c.b, got, c.want)
		}
	}
}

func TestProjectAndWithout(t *testing.T) { // P2.3
	for _, c := range []struct {
		r             string
		names         []string
		project, rest string
	}{
		{"case=dative gender=f number=dual", []string{"number", "case", "x"}, "case=dative number=dual", "gender=f"},
		{"case=dative gender=f number=dual", []string{"number", "number"}, "number=dual", "case=dative gender=f"},
		{"a=1 b=2", nil, "", "a=1 b=2"},
		{"a=1 b=2", []string{"a", "b"}, "a=1 b=2", ""},
		{"a=1 b=2", []string{"b", "a", "b"}, "a=1 b=2", ""},
		{"a=1 b=2", []string{"1", "", "aa"}, "", "a=1 b=2"},
		{"", []string{"a"}, "", ""},
	} {
		if got := Text(Project(rec(c.r), c.names...)); got != c.project {
			t.Errorf("Project(%q, %q) = %q, want %q", c.r, c.names, got, c.project)
		}
		if got := Text(Without(rec(c.r), c.names...)); got != c.rest {
			t.Errorf("Without(%q, %q) = %q, want %q", c.r, c.names, got, c.rest)
		}
	}
}

func TestCompare(t *testing.T) { // P2.4
	for _, c := range []struct {
		a, b string
		want int
	}{
		{"", "", 0}, {"", "a=1", -1}, {"a=1", "a=1", 0}, {"a=1", "a=1 b=1", -1}, {"a=1", "a=2", -1}, {"a=2", "b=1", -1},
		{"a=1 b=1", "a=2", -1}, {"a=1 b=1", "b=1", -1}, {"a=1 b=2", "a=1 c=1", -1}, {"a=1 b=1 c=1", "a=1 b=2", -1},
		{"a=10", "a=2", -1}, {"-=1", "0=1", -1}, {"a=1", "aa=1", -1}, {"a=Z", "a=a", -1}, {"a=z", "a=é", -1},
		{"case=dative number=dual", "gender=f number=dual", -1},
	} {
		if got := Compare(rec(c.a), rec(c.b)); got != c.want {
			t.Errorf("Compare(%q, %q) = %d, want %d", c.a, c.b, got, c.want)
		}
		if got := Compare(rec(c.b), rec(c.a)); got != -c.want {
			t.Errorf("Compare(%q, %q) = %d, want %d", c.b, c.a, got, -c.want)
		}
	}
}

func TestText(t *testing.T) { // P2.5
	for _, c := range []struct {
		r    []api.Feature
		want string
	}{
		{nil, ""}, {[]api.Feature{{Name: "a", Value: "1"}}, "a=1"},
		{[]api.Feature{{Name: "a", Value: "1"}, {Name: "b-c", Value: "x-2"}}, "a=1 b-c=x-2"},
		{[]api.Feature{{Name: "", Value: ""}}, "="},
	} {
		if got := Text(c.r); got != c.want {
			t.Errorf("Text = %q, want %q", got, c.want)
		}
	}
}

func TestParse(t *testing.T) { // P2.5
	for _, s := range []string{"", "a=1", "a=1 b=x-2", "-=-", "a=1 b=1 c=1 d=1 e=1 f=1 g=1 h=1"} {
		r, e := Parse(s)
		if e != api.OK || !slices.Equal(r, rec(s)) || Text(r) != s {
			t.Errorf("Parse(%q) = %v, %d", s, r, e)
		}
	}
	for _, s := range []string{
		"b=1 a=1", "a=1  b=1", "a", // the examples
		"a=", "=1", "=", " ", "a=1 ", " a=1", "a=1 a=2", "a=1 a=1", "a=1=2", "a==1", "A=1", "a=X", "a=1\tb=1", "a=1\nb=1", "a=1\n", "a =1", "a= 1",
		"a=é", "a=\xff", "\x00", "a=1,b=1", "a=1 b", "b a=1",
		"a=1 b=1 c=1 d=1 e=1 f=1 g=1 h=1 i=1", strings.Repeat("a=1 ", 10000), strings.Repeat(" ", 10000),
	} {
		if r, e := Parse(s); len(r) != 0 || e != api.ErrSyntax {
			t.Errorf("Parse(%.40q) = %v, %d, want ErrSyntax", s, r, e)
		}
	}
	for _, r := range small() {
		if got, e := Parse(Text(r)); e != api.OK || !slices.Equal(got, r) {
			t.Errorf("Parse(%q) = %v, %d", Text(r), got, e)
		}
	}
}

// holds reports whether a has the feature f.
func holds(a []api.Feature, f api.Feature) bool { return slices.Contains(a, f) }

func TestOperationsByDefinition(t *testing.T) { // P2.2, P2.3
	for _, a := range small() {
		for _, b := range small() {
			clash := slices.ContainsFunc(a, func(f api.Feature) bool {
				v, ok := Get(b, f.Name)
				return ok && v != f.Value
			})
			u, ok := Unify(a, b)
			if ok == clash || ok && !Valid(u) {
				t.Fatalf("Unify(%q, %q) = %q, %v", Text(a), Text(b), Text(u), ok)
			}
			m, subsumes := Meet(a, b), true
			if !Valid(m) {
				t.Fatalf("Meet(%q, %q) = %q", Text(a), Text(b), Text(m))
			}
			for _, f := range slices.Concat(rec("a=1 a=2 b=1 b=2 c=1 c=2"), a, b) {
				if ok && holds(u, f) != (holds(a, f) || holds(b, f)) || holds(m, f) != (holds(a, f) && holds(b, f)) {
					t.Fatalf("Unify or Meet of %q, %q with %v", Text(a), Text(b), f)
				}
				subsumes = subsumes && (!holds(a, f) || holds(b, f))
			}
			if Subsumes(a, b) != subsumes {
				t.Fatalf("Subsumes(%q, %q) = %v", Text(a), Text(b), !subsumes)
			}
		}
	}
}

func TestUnifyLaws(t *testing.T) { // P2.8
	for _, a := range small() {
		for _, b := range small() {
			u, ok := Unify(a, b)
			if Subsumes(a, b) != (ok && slices.Equal(u, b)) {
				t.Fatalf("Subsumes(%q, %q) against Unify", Text(a), Text(b))
			}
			v, ok2 := Unify(b, a)
			if ok != ok2 || !slices.Equal(u, v) {
				t.Fatalf("Unify(%q, %q) is not commutative", Text(a), Text(b))
			}
			for _, c := range small() {
				w, ok3 := Unify(b, c)
				left, okLeft := Unify(u, c)
				right, okRight := Unify(a, w)
				if ok && ok3 && (okLeft != okRight || !slices.Equal(left, right)) {
					t.Fatalf("Unify of %q, %q, %q is not associative", Text(a), Text(b), Text(c))
				}
			}
		}
	}
}

func TestMeetAndProjectLaws(t *testing.T) { // P2.8
	for _, a := range small() {
		for _, names := range [][]string{nil, {"a"}, {"b", "x"}, {"c", "a", "c"}, {"a", "b", "c"}} {
			if got, ok := Unify(Project(a, names...), Without(a, names...)); !ok || !slices.Equal(got, a) {
				t.Fatalf("Project and Without of %q by %q: %q, %v", Text(a), names, Text(got), ok)
			}
		}
		for _, b := range small() {
			m := Meet(a, b)
			if !Subsumes(m, a) || !Subsumes(m, b) {
				t.Fatalf("Meet(%q, %q) = %q does not subsume both", Text(a), Text(b), Text(m))
			}
			for _, c := range small() {
				if Subsumes(c, a) && Subsumes(c, b) && !Subsumes(c, m) {
					t.Fatalf("%q subsumes %q and %q, but not their meet", Text(c), Text(a), Text(b))
				}
			}
		}
	}
}

func TestRecordsShareNoMemory(t *testing.T) { // section Rules of DOC.md
	for name, f := range map[string]func(a, b []api.Feature) []api.Feature{
		"Unify":         func(a, b []api.Feature) []api.Feature { u, _ := Unify(a, b); return u },
		"Unify, first":  func(a, b []api.Feature) []api.Feature { u, _ := Unify(a, nil); return u },
		"Unify, second": func(a, b []api.Feature) []api.Feature { u, _ := Unify(nil, b); return u },
		"Meet":          func(a, b []api.Feature) []api.Feature { return Meet(a, b) },
		"Project":       func(a, b []api.Feature) []api.Feature { return Project(a, "a", "b") },
		"Without":       func(a, b []api.Feature) []api.Feature { return Without(b) },
	} {
		// The spare capacity shows whether an append writes into an argument.
		a, b := append(make([]api.Feature, 0, 8), rec("a=1 b=2")...), append(make([]api.Feature, 0, 8), rec("a=1 b=2")...)
		out := f(a, b)
		for i := range out {
			out[i] = api.Feature{Name: "changed"}
		}
		_ = append(out, api.Feature{Name: "changed"})
		for _, r := range [][]api.Feature{a, b} {
			if Text(r) != "a=1 b=2" || r[:3][2] != (api.Feature{}) {
				t.Errorf("%s: an argument was changed to %v", name, r[:3])
			}
		}
	}
	names := []string{"b", "a"}
	Project(rec("a=1"), names...)
	Without(rec("a=1"), names...)
	if !slices.Equal(names, []string{"b", "a"}) {
		t.Errorf("the names were changed to %q", names)
	}
}

// randomList returns a list that is mostly no record.
func randomList(source *rand.Rand) []api.Feature {
	texts := []string{"", "a", "b", "c", "A", "\xff", "a b", "="}
	var out []api.Feature
	for range source.Intn(12) {
		out = append(out, api.Feature{Name: texts[source.Intn(len(texts))], Value: texts[source.Intn(len(texts))]})
	}
	return out
}

func TestAllLists(t *testing.T) { // P1 of DOC.md: lists that are not records
	source := rand.New(rand.NewSource(1))
	for range 20000 {
		a, b := randomList(source), randomList(source)
		beforeA, beforeB := slices.Clone(a), slices.Clone(b)
		Get(a, "a")
		Unify(a, b)
		Subsumes(a, b)
		Meet(a, b)
		Project(a, "a", "\xff")
		Without(a, "a", "\xff")
		Compare(a, b)
		if r, e := Parse(Text(a)); (e == api.OK) != Valid(a) || e != api.OK && (e != api.ErrSyntax || r != nil) {
			t.Fatalf("Parse(%q) = %v, %d", Text(a), r, e)
		}
		x := New[int]()
		x.Add(a, 1)
		x.Find(b)
		for range x.Matches(b) {
		}
		if !slices.Equal(a, beforeA) || !slices.Equal(b, beforeB) {
			t.Fatal("an argument was changed")
		}
	}
}
