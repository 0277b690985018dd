package lexicon

import (
	"math/rand"
	"reflect"
	"slices"
	"strings"
	"testing"

	"pentaglot/api"
)

// changed returns the example with a change in its second lexeme.
func changed(change func(*api.Lexeme)) []api.Lexeme {
	out := example()
	change(&out[1])
	return out
}

func TestValid(t *testing.T) { // P9.1
	hyphen := append(letters(), api.Letter{Rune: '-'})
	accented := append(letters(), api.Letter{Rune: 'é'}, api.Letter{Rune: 0xFFFD})
	id := func(s string) []api.Lexeme { return changed(func(x *api.Lexeme) { x.ID = s }) }
	category := func(s string) []api.Lexeme { return changed(func(x *api.Lexeme) { x.Category = s }) }
	stem := func(s string) []api.Lexeme { return changed(func(x *api.Lexeme) { x.Stem = s }) }
	paradigm := func(s string) []api.Lexeme { return changed(func(x *api.Lexeme) { x.Paradigm = s }) }
	features := func(r ...api.Feature) []api.Lexeme { return changed(func(x *api.Lexeme) { x.Features = r }) }
	for _, c := range []struct {
		name string
		a    []api.Letter
		list []api.Lexeme
		want bool
	}{
		{"example", letters(), example(), true},
		{"no lexemes", letters(), nil, true},
		{"no lexemes, not nil", letters(), []api.Lexeme{}, true},
		{"no letters", nil, nil, false},
		{"no letters, an empty stem", nil, []api.Lexeme{{ID: "x", Category: "n"}}, false},
		{"a letter twice", append(letters(), letters()[0]), example(), false},
		{"a blank as a letter", append(letters(), api.Letter{Rune: ' '}), example(), false},
		{"64 letters", distinct(64), example(), true},
		{"65 letters", distinct(65), example(), false},
		{"256 lexemes", letters(), many("x", 256), true},
		{"257 lexemes", letters(), many("x", 257), false},
		{"an ID twice", letters(), append(example(), example()[0]), false},
		{"an ID twice, with other contents", letters(), id("x1"), false},
		{"IDs that differ in length", letters(), id("x11"), true},
		{"ID with all characters", letters(), id("az09-_"), true},
		{"ID -", letters(), id("-"), true},
		{"ID _", letters(), id("_"), true},
		{"ID empty", letters(), id(""), false},
		{"ID in capitals", letters(), id("X2"), false},
		{"ID with a blank", letters(), id("x 2"), false},
		{"ID with a line feed", letters(), id("x2\n"), false},
		{"ID with =", letters(), id("x=2"), false},
		{"ID with a letter that is not ASCII", letters(), id("é"), false},
		{"ID with the character before a", letters(), id("`"), false},
		{"ID with the character after z", letters(), id("{"), false},
		{"ID with the character before 0", letters(), id("/"), false},
		{"ID with the character after 9", letters(), id(":"), false},
		{"category with all characters", letters(), category("az09-_"), true},
		{"category empty", letters(), category(""), false},
		{"category in capitals", letters(), category("N"), false},
		{"category with a wrong byte", letters(), category("n\xff"), false},
		{"paradigm empty", letters(), paradigm(""), true},
		{"paradigm -", letters(), paradigm("-"), true},
		{"paradigm with all characters", letters(), paradigm("az09-_"), true},
		{"paradigm in capitals", letters(), paradigm("Noun"), false},
		{"paradigm with a blank", letters(), paradigm(" "), false},
		{"stem empty", letters(), stem(""), true},
		{"stem with another letter", letters(), stem("bak"), false},
		{"stem with a blank", letters(), stem("ba t"), false},
		{"stem with a line feed", letters(), stem("bat\n"), false},
		{"stem -", letters(), stem("-"), false},
		{"stem - over an alphabet with it", hyphen, stem("-"), true},
		{"stem of 40 letters", letters(), stem(strings.Repeat("a", 40)), true},
		{"stem of 41 letters", letters(), stem(strings.Repeat("a", 41)), false},
		{"stem of letters that are not ASCII", accented, stem("bébé"), true},
		{"stem with a wrong byte", accented, stem("ba\xff"), false},
		{"no features, not nil", letters(), features([]api.Feature{}...), true},
		{"8 features", letters(), features(record("a=1 b=1 c=1 d=1 e=1 f=1 g=1 h=1")...), true},
		{"9 features", letters(), features(append(record("a=1 b=1 c=1 d=1 e=1 f=1 g=1 h=1"), record("i=1")...)...), false},
		{"features in the wrong order", letters(), features(append(record("b=1"), record("a=1")...)...), false},
		{"a feature twice", letters(), features(append(record("a=1"), record("a=1")...)...), false},
		{"a feature without a name", letters(), features(api.Feature{Value: "1"}), false},
		{"a feature without a value", letters(), features(api.Feature{Name: "a"}), false},
		{"a feature with an underscore", letters(), features(api.Feature{Name: "a_b", Value: "1"}), false},
	} {
		if got := Valid(c.a, c.list); got != c.want {
			t.Errorf("%s: Valid = %v", c.name, got)
		}
	}
	for _, l := range []api.Language{api.Anta(), api.Bero(), api.Cuni(), api.Delu(), api.Emai()} {
		if !Valid(l.Words.Alphabet, l.Words.Lexemes) {
			t.Error(l.Name)
		}
	}
}

func TestIndexAndFind(t *testing.T) { // P9.2
	twice := append(example(), api.Lexeme{ID: "x1", Category: "a"}, api.Lexeme{Stem: "e"}, api.Lexeme{Stem: "t"})
	for _, c := range []struct {
		name string
		list []api.Lexeme
		id   string
		want int
	}{
		{"first", example(), "x1", 0},
		{"example", example(), "x2", 1},
		{"last", example(), "x3", 2},
		{"none", example(), "x4", -1},
		{"a part of an ID", example(), "x", -1},
		{"a stem", example(), "bat", -1},
		{"empty, and none is", example(), "", -1},
		{"no lexemes", nil, "x1", -1},
		{"no lexemes, empty ID", nil, "", -1},
		{"the first of two", twice, "x1", 0},
		{"the first of two that are empty", twice, "", 4},
		{"beyond 256 lexemes", many("x", 300), "x299", 299},
	} {
		if got := Index(c.list, c.id); got != c.want {
			t.Errorf("%s: Index = %d", c.name, got)
		}
		got, ok := Find(c.list, c.id)
		if c.want < 0 {
			if ok || !reflect.DeepEqual(got, api.Lexeme{}) {
				t.Errorf("%s: Find = %v, %v", c.name, got, ok)
			}
		} else if !ok || !reflect.DeepEqual(got, c.list[c.want]) {
			t.Errorf("%s: Find = %v, %v", c.name, got, ok)
		}
	}
}

func TestCategoryAndStem(t *testing.T) { // P9.3
	odd := append(example(), api.Lexeme{ID: "x1", Category: "n"}, api.Lexeme{ID: "y"}, api.Lexeme{ID: "X", Category: "n n", Stem: "\xff"})
	for _, c := range []struct {
		name string
		f    func([]api.Lexeme, string) []api.Lexeme
		list []api.Lexeme
		key  string
		want string
	}{
		{"example", Category, example(), "n", "x1 x2"},
		{"one lexeme", Category, example(), "v", "x3"},
		{"no lexeme", Category, example(), "a", ""},
		{"empty category, and none is", Category, example(), "", ""},
		{"no lexemes", Category, nil, "n", ""},
		{"an ID twice", Category, odd, "n", "x1 x2 x1"},
		{"empty category", Category, odd, "", "y"},
		{"a category that is no name", Category, odd, "n n", "X"},
		{"a paradigm is no category", Category, odd, "noun", ""},
		{"two lexemes", Stem, example(), "bat", "x1 x3"},
		{"one lexeme", Stem, example(), "tab", "x2"},
		{"a part of a stem", Stem, example(), "ba", ""},
		{"no lexemes", Stem, nil, "bat", ""},
		{"empty stem, and none is", Stem, example(), "", ""},
		{"empty stem", Stem, odd, "", "x1 y"},
		{"a stem that is not UTF-8", Stem, odd, "\xff", "X"},
		{"another stem that is not UTF-8", Stem, odd, "\xfe", ""},
	} {
		if got := c.f(c.list, c.key); ids(got) != c.want {
			t.Errorf("%s: %v", c.name, got)
		}
	}
	if got := Category(example(), "n"); !equal(got, example()[:2]) {
		t.Errorf("Category = %v", got)
	}
	if got := Stem(example(), "bat"); !equal(got, []api.Lexeme{example()[0], example()[2]}) {
		t.Errorf("Stem = %v", got)
	}
}

func TestWith(t *testing.T) { // P9.4
	list := []api.Lexeme{
		{ID: "f", Features: record("gender=f")},
		{ID: "fh", Features: record("gender=f kind=human")},
		{ID: "m", Features: record("gender=m kind=human")},
		{ID: "none"},
		{ID: "mixed", Features: append(record("kind=human"), record("gender=f")...)},
		{ID: "twice", Features: append(record("gender=f"), record("gender=f")...)},
		{ID: "both", Features: append(record("gender=f"), record("gender=m")...)},
	}
	for _, c := range []struct {
		name     string
		features []api.Feature
		want     string
	}{
		{"no features", nil, "f fh m none mixed twice both"},
		{"no features, not nil", []api.Feature{}, "f fh m none mixed twice both"},
		{"one feature", record("gender=f"), "f fh mixed twice both"},
		{"one feature twice", slices.Repeat(record("gender=f"), 2), "f fh mixed twice both"},
		{"two features", record("gender=f kind=human"), "fh mixed"},
		{"two features in another order", append(record("kind=human"), record("gender=f")...), "fh mixed"},
		{"two values", append(record("gender=f"), record("gender=m")...), "both"},
		{"two values, one of them twice", append(record("gender=f"), append(record("gender=m"), record("gender=f")...)...), "both"},
		{"more features than any lexeme has", record("gender=f kind=human number=sg"), ""},
		{"another name", record("kind=f"), ""},
		{"another value", record("gender=n"), ""},
		{"an empty feature", []api.Feature{{}}, ""},
	} {
		if got := With(list, c.features); ids(got) != c.want {
			t.Errorf("%s: %v", c.name, got)
		}
	}
	if got := With(example(), record("gender=f")); !equal(got, example()[:1]) {
		t.Errorf("the example: %v", got)
	}
	if got := With(nil, nil); len(got) != 0 {
		t.Errorf("no lexemes: %v", got)
	}
}

func TestCategories(t *testing.T) { // P9.5
	of := func(categories ...string) []api.Lexeme {
		var out []api.Lexeme
		for _, c := range categories {
			out = append(out, api.Lexeme{Category: c, Stem: c})
		}
		return out
	}
	for _, c := range []struct {
		name string
		list []api.Lexeme
		want []string
	}{
		{"example", example(), []string{"n", "v"}},
		{"no lexemes", nil, nil},
		{"no lexemes, not nil", []api.Lexeme{}, nil},
		{"a category twice", of("n", "n"), []string{"n"}},
		{"a category twice, not side by side", of("v", "n", "v"), []string{"n", "v"}},
		{"byte order", of("b", "é", "a", "", "-", "_", "B", "\xff", "aa"), []string{"", "-", "B", "_", "a", "aa", "b", "é", "\xff"}},
		{"two categories of one stem", []api.Lexeme{{Category: "v", Stem: "a"}, {Category: "n", Stem: "a"}}, []string{"n", "v"}},
		{"one category of two stems", []api.Lexeme{{Category: "n", Stem: "a"}, {Category: "n", Stem: "b"}}, []string{"n"}},
	} {
		if got := Categories(c.list); !slices.Equal(got, c.want) {
			t.Errorf("%s: %q", c.name, got)
		}
	}
}

func TestMerge(t *testing.T) { // P9.6
	e := example()
	for _, c := range []struct {
		name  string
		a, b  []api.Lexeme
		errno api.Errno
	}{
		{"one and two", e[:1], e[1:], api.OK},
		{"two and one, in another order", e[1:], e[:1], api.OK},
		{"nothing and all", nil, e, api.OK},
		{"all and nothing", e, nil, api.OK},
		{"nothing", nil, nil, api.OK},
		{"an ID of both", e, e[:1], api.ErrExists},
		{"an ID of both, the last ones", e[:2], []api.Lexeme{{ID: "y"}, {ID: "x2"}}, api.ErrExists},
		{"the empty ID in both", []api.Lexeme{{}}, []api.Lexeme{{}}, api.ErrExists},
		{"an ID twice in the second list", e, []api.Lexeme{{ID: "y"}, {ID: "z"}, {ID: "y"}}, api.ErrExists},
		{"an ID twice in the second list, nothing before", nil, []api.Lexeme{{ID: "y"}, {ID: "y"}}, api.ErrExists},
		{"an ID twice in the first list", []api.Lexeme{{ID: "y"}, {ID: "y", Stem: "a"}}, e, api.OK},
		{"IDs that are no names", []api.Lexeme{{ID: "A b"}}, []api.Lexeme{{ID: "\xff"}, {ID: "\xfe"}}, api.OK},
		{"equal but for the ID", []api.Lexeme{{ID: "y", Stem: "a"}}, []api.Lexeme{{ID: "z", Stem: "a"}}, api.OK},
		{"256 in total", many("x", 255), many("y", 1), api.OK},
		{"256 in total, the other way round", many("x", 1), many("y", 255), api.OK},
		{"256 and nothing", many("x", 256), nil, api.OK},
		{"257 in total", many("x", 128), many("y", 129), api.ErrTooLarge},
		{"257 and nothing", many("x", 257), nil, api.ErrTooLarge},
		{"nothing and 257", nil, many("x", 257), api.ErrTooLarge},
		{"both errors: an ID of both", many("x", 256), many("x", 1), api.ErrExists},
		{"both errors: an ID twice in the second list", many("x", 200), append(many("y", 100), many("y", 1)...), api.ErrExists},
		{"too many, and an ID twice in the first list", append(many("x", 256), many("x", 1)...), nil, api.ErrTooLarge},
	} {
		got, errno := Merge(c.a, c.b)
		if errno != c.errno {
			t.Errorf("%s: %d", c.name, errno)
		}
		if want := slices.Concat(c.a, c.b); errno == api.OK && !equal(got, want) {
			t.Errorf("%s: %v", c.name, got)
		}
		if errno != api.OK && len(got) != 0 {
			t.Errorf("%s: %v with an error", c.name, got)
		}
	}
}

func TestHomonyms(t *testing.T) { // P9.7
	of := func(stems ...string) []api.Lexeme {
		var out []api.Lexeme
		for i, s := range stems {
			out = append(out, api.Lexeme{ID: string(rune('a' + i)), Stem: s})
		}
		return out
	}
	for _, c := range []struct {
		name string
		list []api.Lexeme
		want [][]string
	}{
		{"example", example(), [][]string{{"x1", "x3"}}},
		{"no lexemes", nil, nil},
		{"one lexeme", of("t"), nil},
		{"different stems", of("t", "tt", "", "T"), nil},
		{"three lexemes with one stem", of("t", "t", "t"), [][]string{{"a", "b", "c"}}},
		{"two groups that alternate", of("t", "e", "t", "e"), [][]string{{"a", "c"}, {"b", "d"}}},
		{"the group that is complete later is first", of("t", "e", "e", "t"), [][]string{{"a", "d"}, {"b", "c"}}},
		{"others in between", of("b", "t", "a", "t", "e", "t", "e"), [][]string{{"b", "d", "f"}, {"e", "g"}}},
		{"the order is not that of the stems", of("z", "a", "z", "a"), [][]string{{"a", "c"}, {"b", "d"}}},
		{"empty stems", of("", "t", ""), [][]string{{"a", "c"}}},
		{"an ID twice", []api.Lexeme{{ID: "x", Stem: "t"}, {ID: "x", Stem: "t"}}, [][]string{{"x", "x"}}},
		{"an ID with two stems", []api.Lexeme{{ID: "x", Stem: "t"}, {ID: "x", Stem: "e"}}, nil},
		{"wrong bytes", of("\xff", "\xfe", "\xff"), [][]string{{"a", "c"}}},
	} {
		if got := Homonyms(c.list); len(got)+len(c.want) > 0 && !reflect.DeepEqual(got, c.want) {
			t.Errorf("%s: %q", c.name, got)
		}
	}
}

func TestEveryLexemeIsInOneCategory(t *testing.T) { // P9.9
	source := rand.New(rand.NewSource(1))
	for range 300 {
		list := randomList(source, 20)
		sum := 0
		for _, c := range Categories(list) {
			group := Category(list, c)
			sum += len(group)
			if len(group) == 0 || slices.ContainsFunc(group, func(x api.Lexeme) bool { return x.Category != c }) {
				t.Fatalf("category %q of %v: %v", c, list, group)
			}
		}
		if sum != len(list) {
			t.Fatalf("%d of %d lexemes are in the categories of %v", sum, len(list), list)
		}
	}
}

func TestDefinitions(t *testing.T) { // P9.1 to P9.7
	source := rand.New(rand.NewSource(2))
	valid := 0
	for range 20000 {
		list, more := randomList(source, 6), randomList(source, 3)
		x := randomLexeme(source)
		if got := Valid(letters(), list); got != validBy(letters(), list) {
			t.Fatalf("Valid(%q) = %v", list, got)
		} else if got && len(list) > 1 {
			valid++
		}
		if got := Category(list, x.Category); !equal(got, filterBy(list, func(y api.Lexeme) bool { return y.Category == x.Category })) {
			t.Fatalf("Category(%q, %q) = %q", list, x.Category, got)
		}
		if got := Stem(list, x.Stem); !equal(got, filterBy(list, func(y api.Lexeme) bool { return y.Stem == x.Stem })) {
			t.Fatalf("Stem(%q, %q) = %q", list, x.Stem, got)
		}
		if got := With(list, x.Features); !equal(got, withBy(list, x.Features)) {
			t.Fatalf("With(%q, %q) = %q", list, x.Features, got)
		}
		if got, want := Homonyms(list), homonymsBy(list); len(got)+len(want) > 0 && !reflect.DeepEqual(got, want) {
			t.Fatalf("Homonyms(%q) = %q", list, got)
		}
		got, e := Merge(list, more)
		if want, errno := mergeBy(list, more); e != errno || !equal(got, want) {
			t.Fatalf("Merge(%q, %q) = %q, %d", list, more, got, e)
		}
	}
	if valid < 10 {
		t.Errorf("only %d lexicons were valid", valid)
	}
}

// overwrite changes everything that can be changed in a list.
func overwrite(list []api.Lexeme) {
	for i := range list {
		for k := range list[i].Features {
			list[i].Features[k] = api.Feature{Name: "changed"}
		}
		list[i] = api.Lexeme{ID: "changed"}
	}
}

func TestMemory(t *testing.T) { // the chapter's last sentence of 'Guarantees'
	for name, f := range map[string]func([]api.Lexeme) []api.Lexeme{
		"Find": func(l []api.Lexeme) []api.Lexeme {
			x, _ := Find(l, "x1")
			return []api.Lexeme{x}
		},
		"Category":     func(l []api.Lexeme) []api.Lexeme { return Category(l, "n") },
		"Stem":         func(l []api.Lexeme) []api.Lexeme { return Stem(l, "bat") },
		"With":         func(l []api.Lexeme) []api.Lexeme { return With(l, record("gender=f")) },
		"With nothing": func(l []api.Lexeme) []api.Lexeme { return With(l, nil) },
		"Merge": func(l []api.Lexeme) []api.Lexeme {
			m, _ := Merge(l[:1], l[1:])
			return m
		},
		"Merge with nothing": func(l []api.Lexeme) []api.Lexeme {
			m, _ := Merge(l, nil)
			return m
		},
		"Merge nothing with it": func(l []api.Lexeme) []api.Lexeme {
			m, _ := Merge(nil, l)
			return m
		},
	} {
		list := example()
		got := f(list)
		if !equal(list, example()) {
			t.Errorf("%s changed its argument: %v", name, list)
		}
		want := deep(got)
		overwrite(list)
		if !equal(got, want) {
			t.Errorf("%s: the result changes with the argument", name)
		}
		list = example()
		overwrite(f(list))
		if !equal(list, example()) {
			t.Errorf("%s: the argument changes with the result", name)
		}
	}
	list := example()
	if Valid(letters(), list); !equal(list, example()) {
		t.Error("Valid changed its argument")
	}
	if Categories(list)[0] = ""; !equal(list, example()) {
		t.Error("Categories shares memory")
	}
	if Homonyms(list)[0][0] = ""; !equal(list, example()) {
		t.Error("Homonyms shares memory")
	}
	// A list with room behind its end is not extended in place.
	roomy := append(make([]api.Lexeme, 0, 8), example()...)
	Merge(roomy, []api.Lexeme{{ID: "y"}})
	if roomy[:4][3].ID != "" {
		t.Error("Merge wrote behind its argument")
	}
	features := record("gender=f kind=x")
	if With(list, features); !slices.Equal(features, record("gender=f kind=x")) {
		t.Error("With changed the features")
	}
}

func TestLargeLists(t *testing.T) { // P1 of DOC.md
	list := many("x", 200000)
	features := make([]api.Feature, 0, 100000)
	for i := range 100000 {
		features = append(features, api.Feature{Name: strings.Repeat("a", i%50), Value: string(rune(i))})
	}
	list[7].Features = features
	if Valid(letters(), list) || len(Homonyms(list)[0]) != len(list) || len(Categories(list)) != 1 || len(Stem(list, "bat")) != len(list) {
		t.Error("a long list")
	}
	if got := With(list, features); ids(got) != "x7" {
		t.Errorf("With: %d lexemes", len(got))
	}
	if _, e := Merge(list, list); e != api.ErrExists {
		t.Errorf("Merge: %d", e)
	}
	if _, e := Merge(list, nil); e != api.ErrTooLarge {
		t.Errorf("Merge: %d", e)
	}
}
