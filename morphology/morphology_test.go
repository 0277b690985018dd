package morphology

import (
	"fmt"
	"math/rand"
	"reflect"
	"slices"
	"strings"
	"testing"

	"pentaglot/api"
	"pentaglot/feature"
)

// dropFinal is the rule of the chapter's second example.
func dropFinal() api.Rule { return api.Rule{From: 't', Final: true} }

// languages returns the five morphologies of package api.
func languages() map[string]api.Words {
	out := map[string]api.Words{}
	for _, l := range []api.Language{api.Anta(), api.Bero(), api.Cuni(), api.Delu(), api.Emai()} {
		out[l.Name] = l.Words
	}
	return out
}

// listed returns analyses as one text.
func listed(list []api.Analysis) string {
	var out []string
	for _, x := range list {
		out = append(out, strings.TrimSpace(x.Lexeme+" "+feature.Text(x.Cell)))
	}
	return strings.Join(out, ", ")
}

func TestSurface(t *testing.T) { // P11.2
	for _, c := range []struct {
		name, lexeme, cell string
		want               string
		e                  api.Errno
	}{
		{"sg", "boat", "number=sg", "kee", api.OK},
		{"pl", "boat", "number=pl", "keet", api.OK},
		{"without a paradigm", "boats", "", "keet", api.OK},
		{"without a paradigm, with features", "at", "", "at", api.OK},
		{"chosen by a feature of the lexeme", "go", "mood=wish person=1", "keata", api.OK},
		{"not chosen by it", "stay", "mood=wish person=1", "kata", api.OK},
		{"the rule after the affixes", "go", "mood=fact person=3", "atat", api.OK},
		{"no affix", "go", "mood=fact person=2", "at", api.OK},
		{"the last cell", "stay", "mood=wish person=3", "katat", api.OK},
		{"no such lexeme", "ship", "", "", api.ErrNotFound},
		{"the empty ID", "", "", "", api.ErrNotFound},
		{"an ID in capitals", "Boat", "number=sg", "", api.ErrNotFound},
		{"a category", "n", "number=sg", "", api.ErrNotFound},
		{"a cell for a lexeme without a paradigm", "boats", "number=sg", "", api.ErrArgument},
		{"its feature as a cell", "at", "number=sg", "", api.ErrArgument},
		{"the empty cell for a lexeme with a paradigm", "boat", "", "", api.ErrArgument},
		{"a value that the dimension has not", "boat", "number=dual", "", api.ErrArgument},
		{"a cell of another paradigm", "boat", "mood=wish person=1", "", api.ErrArgument},
		{"a dimension too many", "boat", "a=1 number=sg", "", api.ErrArgument},
		{"a dimension too few", "go", "person=1", "", api.ErrArgument},
		{"with a feature of the lexeme", "go", "mood=wish person=1 strong=yes", "", api.ErrArgument},
		{"no such lexeme, with a wrong cell", "ship", "number=dual", "", api.ErrNotFound},
	} {
		if got, e := Surface(rich(), c.lexeme, record(c.cell)); got != c.want || e != c.e {
			t.Errorf("%s: %q, %d", c.name, got, e)
		}
	}
	unordered := []api.Feature{{Name: "person", Value: "1"}, {Name: "mood", Value: "wish"}}
	if got, e := Surface(rich(), "go", unordered); got != "" || e != api.ErrArgument {
		t.Errorf("a cell in another order: %q, %d", got, e)
	}
	if got, e := Surface(rich(), "boats", []api.Feature{}); got != "keet" || e != api.OK {
		t.Errorf("the empty cell that is not nil: %q, %d", got, e)
	}
}

func TestForms(t *testing.T) { // P11.2
	for _, c := range []struct {
		name, lexeme string
		rules        []api.Rule
		want         []string
		e            api.Errno
	}{
		{"example 1", "boat", nil, []string{"kae", "kaet"}, api.OK},
		{"without a paradigm", "boats", nil, []string{"kaet"}, api.OK},
		{"example 2", "tea", []api.Rule{dropFinal()}, []string{"te", "te"}, api.OK},
		{"a rule for a lexeme without a paradigm", "boats", []api.Rule{dropFinal()}, []string{"kae"}, api.OK},
		{"two rules in their order", "tea", []api.Rule{dropFinal(), {From: 'e', Final: true}}, []string{"t", "t"}, api.OK},
		{"two rules in the other order", "tea", []api.Rule{{From: 'e', Final: true}, dropFinal()}, []string{"", "te"}, api.OK},
		{"no such lexeme", "ship", nil, nil, api.ErrNotFound},
	} {
		w := example()
		w.Rules = c.rules
		if got, e := Forms(w, c.lexeme); !slices.Equal(got, c.want) || e != c.e {
			t.Errorf("%s: %q, %d", c.name, got, e)
		}
	}
	got, e := Forms(rich(), "go")
	if want := []string{"ata", "keata", "at", "keat", "atat", "keatat"}; !slices.Equal(got, want) || e != api.OK {
		t.Errorf("two dimensions: %q, %d", got, e)
	}
}

// long returns a morphology with the lexeme x of a paradigm with the cells n=1 and n=2, whose second one has a suffix, and the lexeme y without a paradigm.
func long(stem, suffix string, rules ...api.Rule) api.Words {
	p := api.Paradigm{Name: "p", Dimensions: dimensions("n 1 2"), Slots: [][]api.Affix{{when("n=2", "", suffix)}}}
	return api.Words{
		Alphabet:  append(letters(), api.Letter{Rune: 'é'}),
		Rules:     rules,
		Paradigms: []api.Paradigm{p},
		Lexemes:   []api.Lexeme{{ID: "x", Category: "c", Stem: stem, Paradigm: "p"}, {ID: "y", Category: "c", Stem: stem}},
	}
}

func TestLongForms(t *testing.T) { // P11.2, P11.3, P11.4, P11.5
	double := api.Rule{From: 'a', To: "aa"}
	drop := api.Rule{From: 'a'}
	e39, e40 := strings.Repeat("e", 39), strings.Repeat("é", 40)
	for _, c := range []struct {
		name string
		w    api.Words
		// The forms of the two cells of x and of the cell of y; - if there is none.
		want [3]string
	}{
		{"40 runes", long(e39, "e"), [3]string{e39, e39 + "e", e39}},
		{"41 runes", long(e39, "et"), [3]string{e39, "-", e39}},
		{"40 runes of two bytes", long(e40, ""), [3]string{e40, e40, e40}},
		{"41 runes, the last of two bytes", long(e39, "eé"), [3]string{e39, "-", e39}},
		{"a rule makes 40 of 39", long(e39[1:], "a", double), [3]string{e39[1:], e39[1:] + "aa", e39[1:]}},
		{"a rule makes 41 of 40", long(e39, "a", double), [3]string{e39, "-", e39}},
		{"all cells are too long", long(e39+"a", "", double), [3]string{"-", "-", "-"}},
		{"a rule makes 41, and the next one 39", long(e39, "a", double, drop), [3]string{e39, "-", e39}},
		{"a rule makes 40, and the next one 38", long(e39[1:], "a", double, drop), [3]string{e39[1:], e39[1:], e39[1:]}},
		{"41 runes that a rule would shorten", long(e39, "at", drop), [3]string{e39, "-", e39}},
	} {
		if e := Check(c.w); e != api.OK {
			t.Fatalf("%s: Check = %d", c.name, e)
		}
		checkCell := func(id, cell, want string) {
			got, e := Surface(c.w, id, record(cell))
			if want == "-" && (got != "" || e != api.ErrTooLarge) || want != "-" && (got != want || e != api.OK) {
				t.Errorf("%s: Surface of %s in %s: %q, %d", c.name, id, cell, got, e)
			}
		}
		checkCell("x", "n=1", c.want[0])
		checkCell("x", "n=2", c.want[1])
		checkCell("y", "", c.want[2])
		forms, e := Forms(c.w, "x")
		groups, f := Syncretic(c.w, "x")
		if slices.Contains(c.want[:2], "-") {
			if forms != nil || e != api.ErrTooLarge || groups != nil || f != api.ErrTooLarge {
				t.Errorf("%s: Forms = %q, %d, Syncretic = %v, %d", c.name, forms, e, groups, f)
			}
		} else if !slices.Equal(forms, c.want[:2]) || e != api.OK || f != api.OK {
			t.Errorf("%s: Forms = %q, %d, Syncretic = %v, %d", c.name, forms, e, groups, f)
		}
		var want []pair
		for i, p := range []pair{{"", "x", "n=1"}, {"", "x", "n=2"}, {"", "y", ""}} {
			if p.form = c.want[i]; p.form != "-" {
				want = append(want, p)
			}
		}
		if got := all(c.w); !slices.Equal(got, want) {
			t.Errorf("%s: All yields %q", c.name, got)
		}
	}
	// Cells without a form are left out silently, also by Analyses.
	if got, e := Analyses(long(e39, "et"), e39); listed(got) != "x n=1, y" || e != api.OK {
		t.Errorf("Analyses: %v, %d", got, e)
	}
	if _, e := Forms(long(e39, "et"), "z"); e != api.ErrNotFound {
		t.Errorf("no such lexeme: %d", e)
	}
	if _, e := Surface(long(e39, "et"), "x", record("n=3")); e != api.ErrArgument {
		t.Errorf("no such cell: %d", e)
	}
}

func TestAnalyses(t *testing.T) { // P11.3
	dropping := example()
	dropping.Rules = []api.Rule{dropFinal()}
	empty := example()
	empty.Rules = []api.Rule{{From: 'k'}, {From: 'a'}, {From: 'e'}, dropFinal()}
	for _, c := range []struct {
		name string
		w    api.Words
		word string
		want string
		e    api.Errno
	}{
		{"example 1", example(), "kaet", "boat number=pl, boats", api.OK},
		{"one analysis", example(), "te", "tea number=sg", api.OK},
		{"no analysis", example(), "ka", "", api.OK},
		{"the empty word", example(), "", "", api.OK},
		{"an empty form", empty, "", "boat number=sg, boat number=pl, boats, tea number=sg", api.OK},
		{"three of two lexemes", dropping, "kae", "boat number=sg, boat number=pl, boats", api.OK},
		{"an underlying form only", dropping, "kaet", "", api.OK},
		{"cells apart", rich(), "at", "go mood=fact person=2, stay mood=fact person=2, at", api.OK},
		{"another letter", example(), "box", "", api.ErrArgument},
		{"a blank", example(), "te ", "", api.ErrArgument},
		{"a wrong byte", example(), "te\xff", "", api.ErrArgument},
		{"40 letters", example(), strings.Repeat("a", 40), "", api.OK},
		{"41 letters", example(), strings.Repeat("a", 41), "", api.ErrArgument},
		{"no lexemes", api.Words{Alphabet: letters(), Paradigms: []api.Paradigm{noun()}}, "te", "", api.OK},
		{"parsit in Anta", api.Anta().Words, "parsit", "depart form=sg", api.OK}, // example 8 of DOC.md
		{"partit in Anta", api.Anta().Words, "partit", "", api.OK},
	} {
		got, e := Analyses(c.w, c.word)
		if listed(got) != c.want || e != c.e {
			t.Errorf("%s: %s, %d", c.name, listed(got), e)
		}
		if n, f := Ambiguity(c.w, c.word); n != len(got) || f != e {
			t.Errorf("%s: Ambiguity = %d, %d", c.name, n, f)
		}
	}
}

// even returns a morphology with a lexeme whose 256 cells have the form te, and n lexemes of this form without paradigms.
func even(n int) api.Words {
	p := api.Paradigm{Name: "p", Dimensions: dimensions("a 1 2 3 4 5 6 7 8", "b 1 2 3 4 5 6 7 8", "c 1 2", "d 1 2")}
	return api.Words{Alphabet: letters(), Paradigms: []api.Paradigm{p}, Lexemes: append([]api.Lexeme{{ID: "p", Category: "c", Stem: "te", Paradigm: "p"}}, lexemes(n)...)}
}

func TestManyAnalyses(t *testing.T) { // P11.3
	for n, e := range []api.Errno{api.OK, api.ErrTooLarge, api.ErrTooLarge} {
		list, got := Analyses(even(n), "te")
		count, also := Ambiguity(even(n), "te")
		if got != e || also != e {
			t.Errorf("%d analyses: %d, %d", 256+n, got, also)
		}
		if want := 256; e == api.OK && (len(list) != want || count != want) {
			t.Errorf("%d analyses of %d, Ambiguity = %d", len(list), want, count)
		}
		if e != api.OK && (list != nil || count != 0) {
			t.Errorf("%d analyses with an error, Ambiguity = %d", len(list), count)
		}
	}
	// Other forms do not count.
	if list, e := Analyses(even(100), "t"); len(list) != 0 || e != api.OK {
		t.Errorf("no analysis: %v, %d", list, e)
	}
	if list, e := Analyses(even(300), "x"); list != nil || e != api.ErrArgument {
		t.Errorf("no word: %v, %d", list, e)
	}
}

func TestSyncretic(t *testing.T) { // P11.4
	six := func(forms string) api.Words {
		p := api.Paradigm{Name: "p", Dimensions: dimensions("n 1 2 3 4 5 6"), Slots: [][]api.Affix{nil}}
		for i, s := range strings.Fields(forms) {
			p.Slots[0] = append(p.Slots[0], when(fmt.Sprint("n=", i+1), "", strings.Trim(s, "-")))
		}
		return api.Words{Alphabet: letters(), Rules: []api.Rule{dropFinal()}, Paradigms: []api.Paradigm{p}, Lexemes: []api.Lexeme{{ID: "x", Category: "c", Paradigm: "p"}, {ID: "y", Category: "c", Stem: "a"}}}
	}
	for _, c := range []struct{ forms, want string }{
		{"a e k aa ae ak", "[[0] [1] [2] [3] [4] [5]]"},
		{"a a a a a a", "[[0 1 2 3 4 5]]"},
		{"a at e et k kt", "[[0 1] [2 3] [4 5]]"}, // equal by the rule, side by side
		{"a e k at et kt", "[[0 3] [1 4] [2 5]]"}, // equal by the rule, apart
		{"a e e k a e", "[[0 4] [1 2 5] [3]]"},
		{"k e a a e k", "[[0 5] [1 4] [2 3]]"},
		{"- t a t - e", "[[0 1 3 4] [2] [5]]"}, // empty forms
		{"tt t att at a tt", "[[0 5] [1] [2] [3 4]]"},
	} {
		got, e := Syncretic(six(c.forms), "x")
		if fmt.Sprint(got) != c.want || e != api.OK {
			t.Errorf("%s: %v, %d", c.forms, got, e)
		}
	}
	if got, e := Syncretic(six("a"), "y"); fmt.Sprint(got) != "[[0]]" || e != api.OK {
		t.Errorf("without a paradigm: %v, %d", got, e)
	}
	if got, e := Syncretic(six("a"), "z"); got != nil || e != api.ErrNotFound {
		t.Errorf("no such lexeme: %v, %d", got, e)
	}
	tea := example()
	tea.Rules = []api.Rule{dropFinal()}
	if got, e := Syncretic(tea, "tea"); fmt.Sprint(got) != "[[0 1]]" || e != api.OK {
		t.Errorf("example 2: %v, %d", got, e)
	}
	if got, e := Syncretic(even(0), "p"); len(got) != 1 || len(got[0]) != 256 || !slices.IsSorted(got[0]) || e != api.OK {
		t.Errorf("256 equal cells: %v, %d", got, e)
	}
}

func TestAll(t *testing.T) { // P11.5
	want := []pair{{"kae", "boat", "number=sg"}, {"kaet", "boat", "number=pl"}, {"kaet", "boats", ""}, {"te", "tea", "number=sg"}, {"tet", "tea", "number=pl"}}
	if got := all(example()); !slices.Equal(got, want) {
		t.Errorf("All yields %q", got)
	}
	if got := all(api.Words{Alphabet: letters()}); got != nil {
		t.Errorf("without lexemes All yields %q", got)
	}
	iterator := All(example())
	for n := range len(want) + 1 {
		var got []pair
		calls := 0
		// The iterator is stopped at each of its pairs in turn, and used again.
		iterator(func(s string, x api.Analysis) bool {
			calls++
			got = append(got, pair{s, x.Lexeme, feature.Text(x.Cell)})
			return calls <= n
		})
		if !slices.Equal(got, want[:min(n+1, len(want))]) {
			t.Errorf("stopped after %d: %q", n+1, got)
		}
	}
}

func TestOneRelation(t *testing.T) { // P11.2 to P11.5, P3 of DOC.md
	for name, w := range languages() {
		number := map[string]int{}
		for s, x := range All(w) {
			number[s]++
			if got, e := Surface(w, x.Lexeme, x.Cell); got != s || e != api.OK {
				t.Errorf("%s: Surface of %v: %q, %d, want %q", name, x, got, e, s)
			}
		}
		for s, n := range number {
			list, e := Analyses(w, s)
			if len(list) != n || e != api.OK {
				t.Errorf("%s: %q has %d analyses, %d, want %d", name, s, len(list), e, n)
			}
			for _, x := range list {
				if got, e := Surface(w, x.Lexeme, x.Cell); got != s || e != api.OK {
					t.Errorf("%s: %q is analysed as %v, whose form is %q, %d", name, s, x, got, e)
				}
			}
		}
		if got, want := all(w), allBy(w); !slices.Equal(got, want) || len(got) < 50 {
			t.Errorf("%s: %d pairs, want %d", name, len(got), len(want))
		}
	}
}

func TestDefinitions(t *testing.T) { // P11.2 to P11.5
	source := rand.New(rand.NewSource(2))
	valid, lost := 0, 0
	for range 3000 {
		w := randomWords(source)
		if Check(w) != api.OK {
			continue
		}
		valid++
		want := allBy(w)
		if got := all(w); !slices.Equal(got, want) {
			t.Fatalf("All(%v) yields %q, want %q", w, got, want)
		}
		for _, x := range w.Lexemes {
			lost += checkLexeme(t, w, x)
		}
		for _, word := range []string{"", spelling(source, 3), spelling(source, 6)} {
			checkWord(t, w, word, want)
		}
		for _, p := range want {
			checkWord(t, w, p.form, want)
		}
	}
	if valid < 1000 || lost < 100 {
		t.Errorf("only %d morphologies were valid, only %d lexemes had cells without forms", valid, lost)
	}
}

// checkLexeme compares Surface, Forms and Syncretic with the definitions; it returns 1 if a cell has no form.
func checkLexeme(t *testing.T, w api.Words, x api.Lexeme) int {
	var forms []string
	var groups [][]int
	lost := 0
	for n, f := range formsBy(w, x) {
		got, e := Surface(w, x.ID, f.cell)
		if got != f.form || e == api.OK != f.ok || e != api.OK && e != api.ErrTooLarge {
			t.Fatalf("Surface(%v, %q, %v) = %q, %d", w, x.ID, f.cell, got, e)
		}
		if !f.ok {
			lost = 1
		}
		if i := slices.Index(forms, f.form); i < 0 {
			groups = append(groups, []int{n})
		} else {
			k := slices.IndexFunc(groups, func(g []int) bool { return g[0] == i })
			groups[k] = append(groups[k], n)
		}
		forms = append(forms, f.form)
	}
	got, e := Forms(w, x.ID)
	also, f := Syncretic(w, x.ID)
	if lost == 1 {
		if got != nil || e != api.ErrTooLarge || also != nil || f != api.ErrTooLarge {
			t.Fatalf("%v, %q: Forms = %q, %d, Syncretic = %v, %d", w, x.ID, got, e, also, f)
		}
		return 1
	}
	if !slices.Equal(got, forms) || e != api.OK || !reflect.DeepEqual(also, groups) || f != api.OK {
		t.Fatalf("%v, %q: Forms = %q, %d, Syncretic = %v, %d", w, x.ID, got, e, also, f)
	}
	return 0
}

// checkWord compares Analyses and Ambiguity with the definitions.
func checkWord(t *testing.T, w api.Words, word string, pairs []pair) {
	var want []pair
	for _, p := range pairs {
		if p.form == word {
			want = append(want, p)
		}
	}
	list, e := Analyses(w, word)
	var got []pair
	for _, x := range list {
		got = append(got, pair{word, x.Lexeme, feature.Text(x.Cell)})
	}
	n, f := Ambiguity(w, word)
	if !slices.Equal(got, want) || e != api.OK || n != len(want) || f != api.OK {
		t.Fatalf("%v, %q: Analyses = %q, %d, Ambiguity = %d, %d, want %q", w, word, got, e, n, f, want)
	}
}

func TestMemory(t *testing.T) { // section Rules of DOC.md
	w, cell := rich(), record("mood=wish person=1")
	iterator := All(w)
	before := all(w)
	Surface(w, "go", cell)
	Forms(w, "go")
	Ambiguity(w, "at")
	Syncretic(w, "go")
	Check(w)
	list, _ := Analyses(w, "at")
	for _, x := range list {
		overwriteValue(reflect.ValueOf(x.Cell))
	}
	for _, x := range iterator {
		overwriteValue(reflect.ValueOf(x.Cell))
	}
	if !reflect.DeepEqual(w, rich()) || !slices.Equal(cell, record("mood=wish person=1")) {
		t.Errorf("an argument was changed: %v, %v", w, cell)
	}
	list, _ = Analyses(w, "at")
	overwrite(w)
	var got []pair
	for s, x := range iterator {
		got = append(got, pair{s, x.Lexeme, feature.Text(x.Cell)})
	}
	if !slices.Equal(got, before) {
		t.Errorf("the iterator changes with the argument: %q", got)
	}
	if listed(list) != "go mood=fact person=2, stay mood=fact person=2, at" {
		t.Errorf("the analyses change with the argument: %v", list)
	}
	// Results have no room in common.
	kept := map[string][]api.Feature{}
	for _, x := range All(rich()) {
		_ = append(x.Cell, api.Feature{Name: "z"})
		kept[x.Lexeme+" "+feature.Text(x.Cell)] = x.Cell
	}
	for s, cell := range kept {
		if _, text, _ := strings.Cut(s, " "); feature.Text(cell) != text {
			t.Errorf("the cell %q became %v", s, cell)
		}
	}
	groups, _ := Syncretic(rich(), "go")
	want := fmt.Sprint(groups)
	for _, g := range groups {
		_ = append(g, -1)
	}
	if fmt.Sprint(groups) != want {
		t.Errorf("groups share memory: %v", groups)
	}
}
