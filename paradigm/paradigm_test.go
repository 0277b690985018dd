package paradigm

import (
	"math/rand"
	"reflect"
	"slices"
	"strings"
	"testing"
	"unicode/utf8"

	"pentaglot/api"
	"pentaglot/feature"
)

// changed returns the example with a change.
func changed(change func(*api.Paradigm)) api.Paradigm {
	p := noun()
	change(&p)
	return p
}

// distinct returns n letters with distinct runes, the first of which are those of the examples.
func distinct(n int) []api.Letter {
	out := letters()
	for i := len(out); i < n; i++ {
		out = append(out, api.Letter{Rune: rune(0x100 + i)})
	}
	return out
}

func TestValid(t *testing.T) { // P10.1
	accented := append(letters(), api.Letter{Rune: 'é'}, api.Letter{Rune: 0xFFFD})
	name := func(s string) api.Paradigm { return changed(func(p *api.Paradigm) { p.Name = s }) }
	dims := func(texts ...string) api.Paradigm {
		return changed(func(p *api.Paradigm) { p.Dimensions = dimensions(texts...) })
	}
	slots := func(slots ...[]api.Affix) api.Paradigm { return changed(func(p *api.Paradigm) { p.Slots = slots }) }
	affix := func(x api.Affix) api.Paradigm {
		return changed(func(p *api.Paradigm) { p.Slots[1] = append(p.Slots[1], x) })
	}
	for _, c := range []struct {
		name string
		a    []api.Letter
		p    api.Paradigm
		want bool
	}{
		{"example", letters(), noun(), true},
		{"the zero value", letters(), api.Paradigm{}, false},
		{"only a name", letters(), api.Paradigm{Name: "x"}, true},
		{"no letters", nil, api.Paradigm{Name: "x"}, false},
		{"a letter twice", append(letters(), letters()[0]), noun(), false},
		{"a blank as a letter", append(letters(), api.Letter{Rune: ' '}), noun(), false},
		{"64 letters", distinct(64), noun(), true},
		{"65 letters", distinct(65), noun(), false},
		{"the largest", letters(), largest(), true},
		{"name with all characters", letters(), name("az09-"), true},
		{"name -", letters(), name("-"), true},
		{"name empty", letters(), name(""), false},
		{"name with an underscore", letters(), name("noun_1"), false},
		{"name in capitals", letters(), name("Noun"), false},
		{"name with a blank", letters(), name("a b"), false},
		{"name with =", letters(), name("a=b"), false},
		{"name with another letter", letters(), name("é"), false},
		{"no dimensions", letters(), dims(), true},
		{"4 dimensions", letters(), dims("a 1", "b 1", "c 1", "d 1"), true},
		{"5 dimensions", letters(), dims("a 1", "b 1", "c 1", "d 1", "e 1"), false},
		{"8 values", letters(), dims("a " + values(8)), true},
		{"9 values", letters(), dims("a " + values(9)), false},
		{"a dimension without values", letters(), dims("number sg pl", "case"), false},
		{"a dimension twice", letters(), dims("number sg pl", "number sg pl"), false},
		{"a value twice", letters(), dims("number sg pl sg"), false},
		{"a value of two dimensions", letters(), dims("number sg pl", "case sg pl"), true},
		{"a dimension whose name is no name", letters(), dims("Number sg pl"), false},
		{"a dimension without a name", letters(), dims(" sg pl"), false},
		{"a value that is no name", letters(), dims("number sg p_l"), false},
		{"an empty value", letters(), dims("number sg "), false},
		{"no slots", letters(), slots(), true},
		{"8 slots", letters(), slots(make([][]api.Affix, 8)...), true},
		{"9 slots", letters(), slots(make([][]api.Affix, 9)...), false},
		{"64 affixes", letters(), slots(nil, make([]api.Affix, 64)), true},
		{"65 affixes", letters(), slots(nil, make([]api.Affix, 65)), false},
		{"65 affixes in the first slot", letters(), slots(make([]api.Affix, 65), nil), false},
		{"64 affixes in 8 slots", letters(), slots(slices.Repeat([][]api.Affix{make([]api.Affix, 64)}, 8)...), true},
		{"an empty affix", letters(), affix(api.Affix{}), true},
		{"When with 8 features", letters(), affix(when("a=1 b=1 c=1 d=1 e=1 f=1 g=1 h=1", "a", "t")), true},
		{"When with 9 features", letters(), affix(api.Affix{When: list("a=1 b=1 c=1 d=1 e=1 f=1 g=1 h=1 i=1")}), false},
		{"When in the wrong order", letters(), affix(api.Affix{When: list("b=1 a=1")}), false},
		{"When with a name twice", letters(), affix(api.Affix{When: list("a=1 a=1")}), false},
		{"When with an empty value", letters(), affix(api.Affix{When: list("a=")}), false},
		{"When with an underscore", letters(), affix(api.Affix{When: list("a=b_c")}), false},
		{"When with features of no dimension", letters(), affix(when("tense=past", "", "")), true},
		{"two affixes with the same When", letters(), affix(when("case=acc", "", "a")), true},
		{"Prefix with another letter", letters(), affix(when("", "ab", "")), false},
		{"Suffix with another letter", letters(), affix(when("", "", "ab")), false},
		{"Prefix with a blank", letters(), affix(when("", " ", "")), false},
		{"Suffix with a wrong byte", accented, affix(when("", "", "a\xff")), false},
		{"Prefix with a wrong byte", accented, affix(when("", "\xff", "")), false},
		{"letters that are not ASCII", accented, affix(when("", "é", "é\uFFFD")), true},
		{"Prefix and Suffix of 40 letters", letters(), affix(when("", strings.Repeat("a", 40), strings.Repeat("t", 40))), true},
		{"Prefix of 41 letters", letters(), affix(when("", strings.Repeat("a", 41), "")), false},
		{"Suffix of 41 letters", letters(), affix(when("", "", strings.Repeat("a", 41))), false},
		{"the letter t is missing", letters()[:3], noun(), false},
		{"the letter a is missing", letters()[1:], noun(), false},
	} {
		if got := Valid(c.a, c.p); got != c.want || got != validBy(c.a, c.p) {
			t.Errorf("%s: Valid = %v", c.name, got)
		}
	}
	for _, l := range []api.Language{api.Anta(), api.Bero(), api.Cuni(), api.Delu(), api.Emai()} {
		for _, p := range l.Words.Paradigms {
			if !Valid(l.Words.Alphabet, p) {
				t.Errorf("%s: %s", l.Name, p.Name)
			}
		}
	}
}

func TestChosen(t *testing.T) { // P10.4
	p := noun()
	p.Slots = append(p.Slots, nil, []api.Affix{when("number=pl", "a", ""), when("number=pl", "e", ""), when("", "k", ""), when("case=acc", "t", "")}, []api.Affix{when("a=1 z=1", "", "")})
	long := list("a=1 b=1 c=1 d=1 e=1 f=1 g=1 h=1 i=1 j=1 k=1 number=pl z=1")
	for _, c := range []struct {
		name string
		slot int
		r    []api.Feature
		want int
	}{
		{"first", 0, record("number=pl"), 0},
		{"another value", 0, record("number=sg"), 1},
		{"the empty When", 0, nil, 1},
		{"both features", 1, record("case=acc gender=f"), 0},
		{"both features among others", 1, record("aspect=x case=acc gender=f number=pl"), 0},
		{"one of two features", 1, record("case=acc"), 1},
		{"one feature with another value", 1, record("case=acc gender=m"), 1},
		{"one feature is missing", 1, record("gender=f"), -1},
		{"none", 1, nil, -1},
		{"no affixes", 2, record("number=pl"), -1},
		{"the first of two with the same When", 3, record("number=pl"), 0},
		{"behind the empty When", 3, record("case=acc"), 2},
		{"more features than a valid record has", 0, long, 0},
		{"more features than a valid record has, the first and the last", 4, long, 0},
		{"names and values that are no names", 0, list("A=B number=pl"), 0},
		{"slot -1", -1, record("number=pl"), -1},
		{"the least slot", -1 << 63, nil, -1},
		{"one slot too many", 5, record("number=pl"), -1},
		{"the greatest slot", 1<<63 - 1, nil, -1},
	} {
		if got := Chosen(p, c.slot, c.r); got != c.want || got != chosenBy(p, c.slot, c.r) {
			t.Errorf("%s: %d", c.name, got)
		}
	}
	if got := Chosen(api.Paradigm{}, 0, nil); got != -1 {
		t.Errorf("no slots: %d", got)
	}
	if got := Chosen(largest(), 7, record("a=v7 b=v7")); got != 63 {
		t.Errorf("64 affixes: %d", got)
	}
}

func TestUnderlying(t *testing.T) { // P10.5
	p := noun()
	order := api.Paradigm{Name: "x", Slots: [][]api.Affix{{when("", "a", "e")}, nil, {when("b=1", "", "")}, {when("", "k", "t")}}}
	for _, c := range []struct {
		name           string
		p              api.Paradigm
		stem           string
		inherent, cell string
		want           string
		errno          api.Errno
	}{
		{"example, f", p, "tek", "gender=f", "case=acc number=pl", "atekke", 0},
		{"example, m", p, "tek", "gender=m", "case=acc number=pl", "tekket", 0},
		{"example, cell 0", p, "tek", "gender=m", "case=nom number=sg", "teke", 0},
		{"no inherent record", p, "tek", "", "case=acc number=sg", "teket", 0},
		{"a feature of the cell again", p, "tek", "number=pl", "case=nom number=pl", "tekke", 0},
		{"slots from the inside to the outside", order, "t", "", "", "katet", 0},
		{"no stem", p, "", "gender=f", "case=acc number=sg", "ae", 0},
		{"a stem that is no word", p, "A b\n=", "", "case=nom number=sg", "A b\n=e", 0},
		{"a stem that is not UTF-8", p, "\xff\xc3", "", "case=acc number=sg", "\xff\xc3et", 0},
		{"no slots", api.Paradigm{Name: "x"}, "tek", "", "", "tek", 0},
		{"40 runes", p, strings.Repeat("é", 39), "", "case=nom number=sg", strings.Repeat("é", 39) + "e", 0},
		{"41 runes", p, strings.Repeat("é", 40), "", "case=nom number=sg", "", api.ErrTooLarge},
		{"41 runes in the last slot", p, strings.Repeat("é", 39), "gender=f", "case=acc number=sg", "", api.ErrTooLarge},
		{"41 runes in the stem, no slots", api.Paradigm{Name: "x"}, strings.Repeat("a", 41), "", "", "", api.ErrTooLarge},
		{"40 runes in the stem, no slots", api.Paradigm{Name: "x"}, strings.Repeat("a", 40), "", "", strings.Repeat("a", 40), 0},
		{"40 wrong bytes", api.Paradigm{Name: "x"}, strings.Repeat("\xff", 40), "", "", strings.Repeat("\xff", 40), 0},
		{"41 wrong bytes", api.Paradigm{Name: "x"}, strings.Repeat("\xff", 41), "", "", "", api.ErrTooLarge},
		{"wrong bytes and affixes, 40 runes", p, strings.Repeat("\xc3", 39), "", "case=nom number=sg", strings.Repeat("\xc3", 39) + "e", 0},
		{"a feature is missing in the cell", p, "tek", "", "case=nom", "", api.ErrArgument},
		{"no cell", p, "tek", "", "", "", api.ErrArgument},
		{"a cell in the wrong order", p, "tek", "", "number=sg case=nom", "", api.ErrArgument},
		{"a cell with another feature", p, "tek", "", "case=nom gender=f number=sg", "", api.ErrArgument},
		{"a cell with another value", p, "tek", "", "case=dat number=sg", "", api.ErrArgument},
		{"no dimensions, but a feature", order, "tek", "", "case=nom", "", api.ErrArgument},
		{"the inherent record contradicts the cell", p, "tek", "number=pl", "case=nom number=sg", "", api.ErrArgument},
		{"an inherent record in the wrong order", p, "tek", "b=1 a=1", "case=nom number=sg", "", api.ErrArgument},
		{"an inherent record with an empty value", p, "tek", "b=", "case=nom number=sg", "", api.ErrArgument},
		{"an inherent record with 8 features", p, "tek", "a=1 b=1 c=1 d=1 e=1 f=1 g=1 gender=f", "case=acc number=pl", "atekke", 0},
		{"an inherent record with 9 features", p, "tek", "a=1 b=1 c=1 d=1 e=1 f=1 g=1 h=1 i=1", "case=nom number=sg", "", api.ErrArgument},
		{"both errors", p, strings.Repeat("a", 41), "number=pl", "case=nom number=sg", "", api.ErrArgument},
		{"both errors, no cell", p, strings.Repeat("a", 41), "", "case=nom", "", api.ErrArgument},
	} {
		got, e := Underlying(c.p, c.stem, list(c.inherent), list(c.cell))
		if got != c.want || e != c.errno {
			t.Errorf("%s: %q, %d", c.name, got, e)
		}
	}
	// Each of the eight slots of the largest paradigm adds a letter.
	if got, e := Underlying(largest(), strings.Repeat("k", 32), nil, record("a=v7 b=v0 c=v1 d=v2")); got != strings.Repeat("k", 32)+"aaaaaaaa" || e != api.OK {
		t.Errorf("the largest paradigm, 40 runes: %q, %d", got, e)
	}
	if got, e := Underlying(largest(), strings.Repeat("k", 33), nil, record("a=v7 b=v0 c=v1 d=v2")); got != "" || e != api.ErrTooLarge {
		t.Errorf("the largest paradigm, 41 runes: %q, %d", got, e)
	}
}

func TestUnused(t *testing.T) { // P10.6
	p := noun()
	unreachable := api.Paradigm{Name: "x", Dimensions: dimensions("number sg pl"), Slots: [][]api.Affix{
		{when("number=du", "", ""), when("number=pl", "", ""), when("number=pl", "", ""), when("", "", ""), when("number=sg", "", "")},
		nil,
		{when("gender=f number=pl", "", ""), when("gender=m", "", "")},
	}}
	nine := list("a=1 b=1 c=1 d=1 e=1 f=1 g=1 h=1 i=1")
	for _, c := range []struct {
		name     string
		p        api.Paradigm
		inherent [][]api.Feature
		want     [][2]int
	}{
		{"example", p, [][]api.Feature{record("gender=m")}, [][2]int{{1, 0}}},
		{"both genders", p, [][]api.Feature{record("gender=m"), record("gender=f")}, nil},
		{"the same record twice", p, [][]api.Feature{record("gender=f"), record("gender=f")}, [][2]int{{1, 1}}},
		{"no inherent record at all", p, nil, [][2]int{{0, 0}, {0, 1}, {1, 0}, {1, 1}}},
		{"the empty inherent record", p, [][]api.Feature{nil}, [][2]int{{1, 0}}},
		{"cells that do not unify are skipped", p, [][]api.Feature{record("number=pl")}, [][2]int{{0, 1}, {1, 0}}},
		{"no cell unifies", p, [][]api.Feature{record("number=du")}, [][2]int{{0, 0}, {0, 1}, {1, 0}, {1, 1}}},
		{"a record that is not valid", p, [][]api.Feature{list("b=1 a=1")}, [][2]int{{0, 0}, {0, 1}, {1, 0}, {1, 1}}},
		{"a record with 9 features", p, [][]api.Feature{nine}, [][2]int{{0, 0}, {0, 1}, {1, 0}, {1, 1}}},
		{"a valid record behind others", p, [][]api.Feature{list("b=1 a=1"), record("number=du"), nine, record("gender=f")}, [][2]int{{1, 1}}},
		{"each record with some cells", p, [][]api.Feature{record("case=acc number=sg"), record("case=nom number=pl")}, [][2]int{{1, 0}}},
		{"affixes that are never chosen", unreachable, [][]api.Feature{record("gender=f"), record("gender=m")}, [][2]int{{0, 0}, {0, 2}, {0, 4}}},
		{"no affixes", api.Paradigm{Name: "x", Slots: make([][]api.Affix, 3)}, [][]api.Feature{nil}, nil},
		{"no slots", api.Paradigm{Name: "x"}, nil, nil},
		{"no dimensions", api.Paradigm{Name: "x", Slots: [][]api.Affix{{when("a=1", "", ""), when("", "", ""), when("", "", "")}}}, [][]api.Feature{nil}, [][2]int{{0, 0}, {0, 2}}},
	} {
		if got := Unused(c.p, c.inherent...); !slices.Equal(got, c.want) || !slices.Equal(got, unusedBy(c.p, c.inherent...)) {
			t.Errorf("%s: %v", c.name, got)
		}
	}
	if got := Unused(largest(), nil); len(got) != 0 {
		t.Errorf("the largest paradigm: %v", got)
	}
	if got := Unused(largest(), record("a=v7")); len(got) != 8*56 || got[0] != [2]int{0, 0} || got[447] != [2]int{7, 55} {
		t.Errorf("the largest paradigm with one value: %v", got)
	}
}

func TestDefinitions(t *testing.T) { // P10.3 to P10.6
	source := rand.New(rand.NewSource(1))
	done := map[api.Errno]int{}
	for range 3000 {
		p := randomParadigm(source)
		if !Valid(letters(), p) {
			t.Fatalf("%v is not valid", p)
		}
		inherent := [][]api.Feature{randomRecord(source), randomRecord(source), randomList(source)}[:source.Intn(4)]
		if got := Unused(p, inherent...); !slices.Equal(got, unusedBy(p, inherent...)) {
			t.Fatalf("Unused(%v, %v) = %v", p, inherent, got)
		}
		stem := strings.Repeat("k", source.Intn(45))
		for _, cell := range append(cellsBy(p), randomList(source)) {
			for _, r := range append(inherent, nil) {
				got, ok := Merge(p, cell, r)
				if want, wantOK := mergeBy(p, cell, r); ok != wantOK || !slices.Equal(got, want) {
					t.Fatalf("Merge(%v, %v, %v) = %v, %v", p, cell, r, got, ok)
				}
				form, e := Underlying(p, stem, r, cell)
				if want, errno := underlyingBy(p, stem, r, cell); form != want || e != errno {
					t.Fatalf("Underlying(%v, %q, %v, %v) = %q, %d", p, stem, r, cell, form, e)
				}
				done[e]++
			}
			slot := source.Intn(6) - 1
			if r := randomRecord(source); Chosen(p, slot, r) != chosenBy(p, slot, r) {
				t.Fatalf("Chosen(%v, %d, %v) = %d", p, slot, r, Chosen(p, slot, r))
			}
		}
	}
	if done[api.OK] < 1000 || done[api.ErrArgument] < 1000 || done[api.ErrTooLarge] < 1000 {
		t.Errorf("results by error: %v", done)
	}
}

func TestFormsContainTheStem(t *testing.T) { // P10.7
	source := rand.New(rand.NewSource(2))
	for range 1000 {
		p, r := randomParadigm(source), randomRecord(source)
		for cell := range feature.All(p.Dimensions) {
			around, e := Underlying(p, "|", r, cell)
			if e != api.OK {
				continue
			}
			before, after, _ := strings.Cut(around, "|")
			stem := []string{"", "t", "tekk", "\xc3", "é"}[source.Intn(5)]
			got, e := Underlying(p, stem, r, cell)
			if want := before + stem + after; utf8.RuneCountInString(want) <= 40 && (got != want || e != api.OK) {
				t.Fatalf("%v: %q, %d for %q, but %q", p, got, e, stem, around)
			}
		}
	}
}

func TestAffixesBehindAnEmptyWhen(t *testing.T) { // P10.7
	source := rand.New(rand.NewSource(3))
	removed := 0
	for range 1000 {
		p, r := randomParadigm(source), randomRecord(source)
		short := deep(p)
		for i, slot := range short.Slots {
			if n := slices.IndexFunc(slot, func(x api.Affix) bool { return len(x.When) == 0 }); n >= 0 {
				removed += len(slot) - n - 1
				short.Slots[i] = slot[:n+1]
				if got := Chosen(p, i, r); got > n {
					t.Fatalf("%v: slot %d chooses %d", p, i, got)
				}
			}
		}
		for cell := range feature.All(p.Dimensions) {
			got, e := Underlying(p, "tek", r, cell)
			if same, errno := Underlying(short, "tek", r, cell); got != same || e != errno {
				t.Fatalf("%v: %q, %d and %q, %d", p, got, e, same, errno)
			}
		}
	}
	if removed < 100 {
		t.Errorf("only %d affixes were removed", removed)
	}
}

// invalid returns paradigms that are not valid.
func invalid() map[string]api.Paradigm {
	out := map[string]api.Paradigm{
		"no name":         changed(func(p *api.Paradigm) { p.Name = "" }),
		"many slots":      changed(func(p *api.Paradigm) { p.Slots = slices.Repeat(p.Slots, 20000) }),
		"many affixes":    changed(func(p *api.Paradigm) { p.Slots[0] = slices.Repeat(p.Slots[1], 10000) }),
		"long affixes":    changed(func(p *api.Paradigm) { p.Slots[0][1].Suffix = strings.Repeat("\xff", 1000000) }),
		"many dimensions": changed(func(p *api.Paradigm) { p.Dimensions = slices.Repeat(p.Dimensions, 100000) }),
		"many values":     changed(func(p *api.Paradigm) { p.Dimensions[0].Values = slices.Repeat(p.Dimensions[0].Values, 100000) }),
		"When no record":  changed(func(p *api.Paradigm) { p.Slots[0][0].When = list("number=pl case=acc case=nom") }),
	}
	for _, texts := range [][]string{{"case"}, {"case x", "number"}, {"case x x"}, {"case x", "case y"}, {" x"}, {"case "}, {"case X"}, {"c_d x"}, {"a 1", "b 1", "c 1", "d 1", "e 1"}} {
		out[strings.Join(texts, ",")] = changed(func(p *api.Paradigm) { p.Dimensions = dimensions(texts...) })
	}
	return out
}

func TestInvalidParadigms(t *testing.T) { // P1 of DOC.md
	lists := [][]api.Feature{nil, record("case=x"), record("case=nom number=sg"), list("case="), list("=x"), list("b=1 a=1"), make([]api.Feature, 5), slices.Repeat(list("case=nom"), 100000)}
	for name, p := range invalid() {
		if Valid(letters(), p) {
			t.Errorf("%s is valid", name)
		}
		Unused(p, lists...)
		for n := -2; n < 3; n++ {
			Cell(p, n)
		}
		for _, cell := range lists {
			if n := Number(p, cell); n >= Count(p) {
				t.Errorf("%s: the number of %v is %d of %d", name, cell, n, Count(p))
			}
			for _, inherent := range lists {
				if got, e := Underlying(p, "tek", inherent, cell); e != api.OK && got != "" {
					t.Errorf("%s: %q, %d", name, got, e)
				}
				if got, ok := Merge(p, cell, inherent); !ok && got != nil {
					t.Errorf("%s: %v", name, got)
				}
			}
		}
	}
	for _, p := range []api.Paradigm{noun(), invalid()["When no record"]} {
		for _, r := range lists {
			Chosen(p, 0, r)
		}
	}
}

// overwrite changes everything that can be changed in a paradigm.
func overwrite(p api.Paradigm) {
	for _, d := range p.Dimensions {
		clear(d.Values)
	}
	clear(p.Dimensions)
	for _, slot := range p.Slots {
		for _, x := range slot {
			clear(x.When)
		}
		clear(slot)
	}
	clear(p.Slots)
}

func TestMemory(t *testing.T) { // the section 'Rules' of DOC.md
	p, cell, inherent := noun(), record("case=acc number=pl"), record("gender=f")
	Valid(letters(), p)
	Count(p)
	Chosen(p, 1, cell)
	Underlying(p, "tek", inherent, cell)
	unused := Unused(p, inherent, inherent)
	third, _ := Cell(p, 3)
	Number(p, cell)
	merged, _ := Merge(p, cell, inherent)
	empty, _ := Merge(p, cell, nil)
	if !reflect.DeepEqual(p, noun()) || !slices.Equal(cell, record("case=acc number=pl")) || !slices.Equal(inherent, record("gender=f")) {
		t.Errorf("the arguments were changed: %v, %v, %v", p, cell, inherent)
	}
	overwrite(p)
	clear(cell)
	clear(inherent)
	if !slices.Equal(third, record("case=acc number=pl")) || !slices.Equal(empty, third) || !slices.Equal(merged, record("case=acc gender=f number=pl")) || !slices.Equal(unused, [][2]int{{1, 1}}) {
		t.Errorf("the results change with the arguments: %v, %v, %v, %v", third, merged, empty, unused)
	}
	p, cell = noun(), record("case=acc number=pl")
	third, _ = Cell(p, 3)
	clear(third)
	empty, _ = Merge(p, cell, nil)
	clear(empty)
	if !reflect.DeepEqual(p, noun()) || !slices.Equal(cell, record("case=acc number=pl")) {
		t.Errorf("the arguments change with the results: %v, %v", p, cell)
	}
	// Records with room behind their ends are not extended in place.
	roomy := append(make([]api.Feature, 0, 8), cell...)
	Merge(p, roomy, record("number=pl person=3"))
	if roomy[:3][2] != (api.Feature{}) {
		t.Error("Merge wrote behind its argument")
	}
}
