package lexicon

import (
	"math/rand"
	"reflect"
	"strings"
	"testing"

	"pentaglot/api"
)

func TestLine(t *testing.T) { // P9.8, P9.9
	for _, c := range []struct {
		name string
		x    api.Lexeme
		want string
	}{
		{"example 1", example()[0], "x1 n bat noun gender=f"},
		{"example 2", example()[1], "x2 n tab noun"},
		{"example 3", example()[2], "x3 v bat -"},
		{"no stem", api.Lexeme{ID: "x", Category: "n", Paradigm: "noun"}, "x n - noun"},
		{"no stem and no paradigm", api.Lexeme{ID: "x", Category: "n"}, "x n - -"},
		{"no stem and no paradigm, but features", api.Lexeme{ID: "x", Category: "n", Features: record("a=1 b=2")}, "x n - - a=1 b=2"},
		{"empty features that are not nil", api.Lexeme{ID: "x", Category: "n", Stem: "a", Features: []api.Feature{}}, "x n a -"},
		{"8 features", api.Lexeme{ID: "x", Category: "n", Stem: "a", Features: record("a=1 b=1 c=1 d=1 e=1 f=1 g=1 h=1")}, "x n a - a=1 b=1 c=1 d=1 e=1 f=1 g=1 h=1"},
		{"hyphens and underscores", api.Lexeme{ID: "-", Category: "-", Stem: "--", Paradigm: "_", Features: record("-=-")}, "- - -- _ -=-"},
		{"a hyphen is no paradigm, two are", api.Lexeme{ID: "x", Category: "n", Stem: "a", Paradigm: "--"}, "x n a --"},
		{"a stem that looks like features", api.Lexeme{ID: "x", Category: "n", Stem: "a=1"}, "x n a=1 -"},
		{"a stem that is no word", api.Lexeme{ID: "x", Category: "n", Stem: "A\t\rB\u00a0\x00"}, "x n A\t\rB\u00a0\x00 -"},
		{"a stem that is not UTF-8", api.Lexeme{ID: "x", Category: "n", Stem: "\xff\xc3"}, "x n \xff\xc3 -"},
		{"a stem of more than 40 letters", api.Lexeme{ID: "x", Category: "n", Stem: strings.Repeat("é", 1000)}, "x n " + strings.Repeat("é", 1000) + " -"},
	} {
		if got := Line(c.x); got != c.want {
			t.Errorf("%s: Line = %q", c.name, got)
		}
		if got, e := ParseLine(c.want); e != api.OK || !equal([]api.Lexeme{got}, []api.Lexeme{c.x}) {
			t.Errorf("%s: ParseLine = %v, %d", c.name, got, e)
		}
	}
}

func TestNoLine(t *testing.T) { // P9.8
	good := func() api.Lexeme { return api.Lexeme{ID: "x", Category: "n", Stem: "a", Paradigm: "noun"} }
	if Line(good()) != "x n a noun" {
		t.Errorf("Line = %q", Line(good()))
	}
	for name, change := range map[string]func(*api.Lexeme){
		"ID empty":                  func(x *api.Lexeme) { x.ID = "" },
		"ID in capitals":            func(x *api.Lexeme) { x.ID = "X" },
		"ID with a blank":           func(x *api.Lexeme) { x.ID = "x y" },
		"ID with another letter":    func(x *api.Lexeme) { x.ID = "é" },
		"category empty":            func(x *api.Lexeme) { x.Category = "" },
		"category in capitals":      func(x *api.Lexeme) { x.Category = "N" },
		"category with a line feed": func(x *api.Lexeme) { x.Category = "n\n" },
		"stem -":                    func(x *api.Lexeme) { x.Stem = "-" },
		"stem with a blank":         func(x *api.Lexeme) { x.Stem = "a b" },
		"stem that is a blank":      func(x *api.Lexeme) { x.Stem = " " },
		"stem with a line feed":     func(x *api.Lexeme) { x.Stem = "a\n" },
		"paradigm -":                func(x *api.Lexeme) { x.Paradigm = "-" },
		"paradigm in capitals":      func(x *api.Lexeme) { x.Paradigm = "Noun" },
		"paradigm with a blank":     func(x *api.Lexeme) { x.Paradigm = "a b" },
		"features in wrong order":   func(x *api.Lexeme) { x.Features = append(record("b=1"), record("a=1")...) },
		"a feature twice":           func(x *api.Lexeme) { x.Features = append(record("a=1"), record("a=1")...) },
		"9 features":                func(x *api.Lexeme) { x.Features = append(record("a=1 b=1 c=1 d=1 e=1 f=1 g=1 h=1"), record("i=1")...) },
		"a feature without a name":  func(x *api.Lexeme) { x.Features = []api.Feature{{Value: "1"}} },
		"a feature with a blank":    func(x *api.Lexeme) { x.Features = []api.Feature{{Name: "a", Value: "1 2"}} },
	} {
		x := good()
		change(&x)
		if got := Line(x); got != "" {
			t.Errorf("%s: Line = %q", name, got)
		}
	}
	if got := Line(api.Lexeme{}); got != "" {
		t.Errorf("the zero value: Line = %q", got)
	}
}

func TestParseLineErrors(t *testing.T) { // P9.8
	for _, s := range []string{
		"", " ", "-", "    ", "x3", "x3 v", "x3 v bat", // too few parts
		"x3 v bat ", "x3 v bat - ", " x3 v bat -", "x3 v bat -\n", "\nx3 v bat -", // more around it
		"x3  v bat -", "x3 v  bat -", "x3 v bat  -", "x3  bat -", "x3 v  -", // two blanks
		"x3 v bat noun  a=1", "x3 v bat noun a=1  b=1", "x3 v bat noun a=1 ", "x3 v bat noun a=1\n",
		"x3 v ba\nt -", "x3\tv\tbat\t-", "x3 v bat\t-",
		"X3 v bat -", "x3 V bat -", "x3 v bat Noun", "x=3 v bat -", "x3 é bat -", "\xff v bat -", // no names
		"x3 v bat - a", "x3 v bat - noun", "x3 v bat - -", "x3 v bat - a=", "x3 v bat - =1", "x3 v bat - a=1=2", "x3 v bat noun verb a=1", // too many parts
		"x3 v bat - b=1 a=1", "x3 v bat - a=1 a=1", "x3 v bat - a=1 a=2", "x3 v bat - A=1", "x3 v bat - a_b=1", "x3 v bat - a=1, b=1",
		"x3 v bat - a=1 b=1 c=1 d=1 e=1 f=1 g=1 h=1 i=1",
		"x3 v bat a=1", "x3 v bat gender=f", // the paradigm is missing
	} {
		if x, e := ParseLine(s); e != api.ErrSyntax || !reflect.DeepEqual(x, api.Lexeme{}) {
			t.Errorf("ParseLine(%q) = %v, %d", s, x, e)
		}
	}
}

func TestLinesByDefinition(t *testing.T) { // P9.8, P9.9
	source := rand.New(rand.NewSource(3))
	written := 0
	for range 100000 {
		x := randomLexeme(source)
		s := Line(x)
		if s != lineBy(x) {
			t.Fatalf("Line(%q) = %q", x, s)
		}
		if s == "" {
			continue
		}
		written++
		if got, e := ParseLine(s); e != api.OK || !equal([]api.Lexeme{got}, []api.Lexeme{x}) {
			t.Fatalf("ParseLine(%q) = %q, %d", s, got, e)
		}
	}
	if written < 1000 {
		t.Errorf("only %d lexemes have lines", written)
	}
}

func TestStringsAsLines(t *testing.T) { // P9.8, P9.9
	source := rand.New(rand.NewSource(4))
	read := 0
	for range 200000 {
		s := one(source, "x", "-", "x_1", "x", "X", "") + one(source, " ", " ", " ", " ", "  ", "\n") + one(source, "n", "v", "-", "n", "")
		for range 1 + source.Intn(6) {
			s += one(source, " ", " ", " ", " ", " ", " ", "", "\n") + one(source, "a", "bat", "-", "noun", "a=1", "b=2", "c=3", "\xff", "a=1", "")
		}
		x, e := ParseLine(s)
		if (e == api.OK) != isLineBy(s) {
			t.Fatalf("ParseLine(%q) = %q, %d", s, x, e)
		}
		if e == api.OK {
			read++
			if got := Line(x); got != s {
				t.Fatalf("Line of ParseLine(%q) = %q", s, got)
			}
		} else if e != api.ErrSyntax || !reflect.DeepEqual(x, api.Lexeme{}) {
			t.Fatalf("ParseLine(%q) = %q, %d", s, x, e)
		}
	}
	if read < 1000 {
		t.Errorf("only %d strings are lines", read)
	}
}

func TestLinesOfLanguages(t *testing.T) { // P9.9
	for _, l := range []api.Language{api.Anta(), api.Bero(), api.Cuni(), api.Delu(), api.Emai()} {
		for _, x := range l.Words.Lexemes {
			if got, e := ParseLine(Line(x)); e != api.OK || !equal([]api.Lexeme{got}, []api.Lexeme{x}) {
				t.Errorf("%s: %v is read as %v, %d", l.Name, x, got, e)
			}
		}
	}
}

func TestLineMemory(t *testing.T) { // the chapter's last sentence of 'Guarantees'
	x := example()[0]
	if Line(x); !equal([]api.Lexeme{x}, example()[:1]) {
		t.Errorf("Line changed its argument: %v", x)
	}
	if _, e := ParseLine(strings.Repeat("a=1 ", 1000000)); e != api.ErrSyntax {
		t.Errorf("ParseLine of a long string: %d", e)
	}
	if _, e := ParseLine(strings.Repeat(" ", 1000000)); e != api.ErrSyntax {
		t.Errorf("ParseLine of many blanks: %d", e)
	}
}
