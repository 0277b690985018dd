package measure

import (
	"math"
	"reflect"
	"slices"
	"testing"

	"pentaglot/api"
)

// wrongUnits returns units that are not valid, by what is wrong with them.
func wrongUnits() map[string][]api.Unit {
	named := func(names ...string) []api.Unit {
		out := sized([]int{1, 2, 4, 8, 16}[:len(names)]...)
		for i := range out {
			out[i].Name = names[i]
		}
		return out
	}
	return map[string][]api.Unit{
		"no units":                   nil,
		"an empty list":              {},
		"9 units":                    sized(1, 2, 4, 8, 16, 32, 64, 128, 256),
		"1000 units":                 make([]api.Unit, 1000),
		"an empty name":              named(""),
		"a first empty name":         named("", "b", "c"),
		"an empty name in between":   named("a", "", "c"),
		"a last empty name":          named("a", "b", ""),
		"two empty names":            named("", ""),
		"equal names":                named("a", "a"),
		"equal names at the ends":    named("a", "b", "a"),
		"equal names at last":        named("a", "b", "c", "d", "d"),
		"a first Size of 0":          sized(0),
		"a first Size of 2":          sized(2),
		"a first Size of 2, then 4":  sized(2, 4),
		"a first Size of 60":         sized(60, 120, 240),
		"a first Size of -1":         sized(-1),
		"a first Size of -1, then 1": sized(-1, 1),
		"a first Size of 0, then 1":  sized(0, 1),
		"the least first Size":       sized(math.MinInt),
		"equal Sizes":                sized(1, 1),
		"equal later Sizes":          sized(1, 60, 60),
		"no multiple":                sized(1, 60, 90),
		"no multiple of the last":    sized(1, 2, 6, 8),
		"no multiple, but nearly":    sized(1, 1000, 999999),
		"descending Sizes":           sized(1, 60, 30),
		"descending to 1":            sized(1, 60, 1),
		"a Size of 0":                sized(1, 0),
		"a later Size of 0":          sized(1, 60, 0),
		"a negative Size":            sized(1, -60),
		"a later negative Size":      sized(1, 60, -120),
		"the least Size":             sized(1, math.MinInt),
		"a Size of 1,000,001":        sized(1, 1000001),
		"a Size of 1,000,002":        sized(1, 2, 1000002),
		"a Size of 2,000,000":        sized(1, 1000000, 2000000),
		"the greatest Size":          sized(1, math.MaxInt),
	}
}

// rightUnits returns valid units.
func rightUnits() [][]api.Unit {
	return [][]api.Unit{
		example(), quarters(), sized(1), sized(1, 2), sized(1, 1000000), sized(1, 500000, 1000000), sized(1, 999999), sized(1, 3, 999999), sized(1, 2, 4, 8, 16, 32, 64, 128), sized(1, 10, 100, 1000, 10000, 100000, 1000000),
		{{Name: " ", Size: 1}, {Name: "\xff", Size: 7}, {Name: "\x00", Size: 49}, {Name: "א", Size: 98}, {Name: "a", Size: 196}, {Name: "A", Size: 392}},
	}
}

func TestCheck(t *testing.T) { // P16.1
	for name, units := range wrongUnits() {
		if Check(units) {
			t.Errorf("%s: valid", name)
		}
	}
	for _, units := range rightUnits() {
		if !Check(units) {
			t.Errorf("%v is not valid", units)
		}
	}
	for _, l := range []api.Language{api.Anta(), api.Bero(), api.Cuni(), api.Delu(), api.Emai()} {
		if !Check(l.Units) {
			t.Error(l.Name)
		}
	}
	// All lists of up to three small sizes.
	for a := -2; a < 8; a++ {
		for b := -2; b < 20; b++ {
			for c := -2; c < 20; c++ {
				for _, units := range [][]api.Unit{sized(a), sized(a, b), sized(a, b, c)} {
					if Check(units) != areUnitsBy(units) {
						t.Errorf("Check(%v) = %v", units, Check(units))
					}
				}
			}
		}
	}
}

func TestWrongUnits(t *testing.T) { // section Errors
	for name, units := range wrongUnits() {
		for _, parts := range [][]int{nil, {0}, {1, 1}, {5, 1, 1}, {1 << 41}, {math.MaxInt, 0, 0}, make([]int, len(units))} {
			for _, n := range []int{-1, 0, 1505, 1 << 40, 1<<40 + 1} {
				if p, e := Split(units, n); p != nil || e != api.ErrArgument {
					t.Errorf("%s: Split(%d) = %v, %d", name, n, p, e)
				}
			}
			if n, e := Join(units, parts); n != 0 || e != api.ErrArgument {
				t.Errorf("%s: Join(%v) = %d, %d", name, parts, n, e)
			}
			if Normal(units, parts) {
				t.Errorf("%s: %v is normal", name, parts)
			}
			if p, e := Normalize(units, parts); p != nil || e != api.ErrArgument {
				t.Errorf("%s: Normalize(%v) = %v, %d", name, parts, p, e)
			}
			if p, e := Convert(units, example(), parts); p != nil || e != api.ErrArgument {
				t.Errorf("%s: Convert(%v) from them = %v, %d", name, parts, p, e)
			}
			if p, e := Convert(example(), units, []int{5, 1, 1}); p != nil || e != api.ErrArgument {
				t.Errorf("%s: Convert to them = %v, %d", name, p, e)
			}
			if p, e := Convert(example(), units, []int{0, 0, 1 << 62}); p != nil || e != api.ErrArgument {
				t.Errorf("%s: Convert of too much to them = %v, %d", name, p, e)
			}
			if c, e := Compare(units, parts, parts); c != 0 || e != api.ErrArgument {
				t.Errorf("%s: Compare(%v) = %d, %d", name, parts, c, e)
			}
			if p, e := Add(units, parts, parts); p != nil || e != api.ErrArgument {
				t.Errorf("%s: Add(%v) = %v, %d", name, parts, p, e)
			}
		}
	}
}

func TestSplit(t *testing.T) { // P16.2
	for _, c := range []struct {
		units []api.Unit
		n     int
		want  []int
		e     api.Errno
	}{
		{example(), 1505, []int{5, 1, 1}, api.OK},
		{example(), 0, []int{0, 0, 0}, api.OK},
		{example(), 1, []int{1, 0, 0}, api.OK},
		{example(), 59, []int{59, 0, 0}, api.OK},
		{example(), 60, []int{0, 1, 0}, api.OK},
		{example(), 1439, []int{59, 23, 0}, api.OK},
		{example(), 1440, []int{0, 0, 1}, api.OK},
		{example(), 1 << 40, []int{16, 12, 763549741}, api.OK},
		{example(), 1<<40 + 1, nil, api.ErrTooLarge},
		{example(), math.MaxInt, nil, api.ErrTooLarge},
		{example(), -1, nil, api.ErrArgument},
		{example(), math.MinInt, nil, api.ErrArgument},
		{sized(1), 0, []int{0}, api.OK},
		{sized(1), 1 << 40, []int{1 << 40}, api.OK},
		{sized(1), 1<<40 + 1, nil, api.ErrTooLarge},
		{sized(1, 1000000), 1 << 40, []int{627776, 1099511}, api.OK},
		{sized(1, 2, 4, 8, 16, 32, 64, 128), 255, []int{1, 1, 1, 1, 1, 1, 1, 1}, api.OK},
		{sized(1, 2, 4, 8, 16, 32, 64, 128), 1<<40 - 1, []int{1, 1, 1, 1, 1, 1, 1, 1<<33 - 1}, api.OK},
	} {
		if p, e := Split(c.units, c.n); !slices.Equal(p, c.want) || e != c.e {
			t.Errorf("Split(%v, %d) = %v, %d", c.units, c.n, p, e)
		}
	}
}

// partsCase are parts with their amount or error.
type partsCase struct {
	units  []api.Unit
	parts  []int
	want   int
	e      api.Errno
	normal bool
}

// partsCases are right and wrong parts.
func partsCases() []partsCase {
	million := sized(1, 1000000)
	return []partsCase{
		{example(), []int{5, 1, 1}, 1505, api.OK, true},
		{example(), []int{65, 0, 1}, 1505, api.OK, false},
		{example(), []int{0, 0, 0}, 0, api.OK, true},
		{example(), []int{59, 0, 0}, 59, api.OK, true},
		{example(), []int{60, 0, 0}, 60, api.OK, false},
		{example(), []int{59, 23, 0}, 1439, api.OK, true},
		{example(), []int{0, 24, 0}, 1440, api.OK, false},
		{example(), []int{59, 24, 5}, 8699, api.OK, false},
		{example(), []int{59, 23, 763549740}, 1<<40 - 16 - 720 - 1, api.OK, true},
		{example(), []int{16, 12, 763549741}, 1 << 40, api.OK, true},
		{example(), []int{17, 12, 763549741}, 0, api.ErrTooLarge, false},
		{example(), []int{0, 13, 763549741}, 0, api.ErrTooLarge, false},
		{example(), []int{0, 0, 763549742}, 0, api.ErrTooLarge, false},
		{example(), []int{1 << 40, 0, 0}, 1 << 40, api.OK, false},
		{example(), []int{1<<40 + 1, 0, 0}, 0, api.ErrTooLarge, false},
		{example(), []int{1 << 40, 1, 0}, 0, api.ErrTooLarge, false},
		{example(), []int{1 << 40, 0, 1}, 0, api.ErrTooLarge, false},
		{example(), []int{1<<40 - 60, 1, 0}, 1 << 40, api.OK, false},
		{example(), []int{1<<40 - 59, 1, 0}, 0, api.ErrTooLarge, false},
		{example(), []int{0, 0, 1 << 62}, 0, api.ErrTooLarge, false},
		{example(), []int{math.MaxInt, math.MaxInt, math.MaxInt}, 0, api.ErrTooLarge, false},
		{example(), []int{1, math.MaxInt, 0}, 0, api.ErrTooLarge, false},
		{example(), []int{math.MaxInt, 1, 0}, 0, api.ErrTooLarge, false},
		{example(), []int{math.MaxInt, 0, 0}, 0, api.ErrTooLarge, false},
		{sized(1, 2, 4), []int{0, 1 << 63 / 4, 1 << 63 / 8}, 0, api.ErrTooLarge, false}, // both products are 2^62, and their sum is 2^63
		{sized(1, 4, 8), []int{0, 1 << 62, 1 << 61}, 0, api.ErrTooLarge, false},         // the products are 2^64
		{million, []int{0, 1 << 58}, 0, api.ErrTooLarge, false},                         // the product is a multiple of 2^64
		{million, []int{627776, 1099511}, 1 << 40, api.OK, true},
		{million, []int{627777, 1099511}, 0, api.ErrTooLarge, false},
		{million, []int{999999, 1099510}, 1099510999999, api.OK, true},
		{million, []int{1000000, 1099510}, 1099511000000, api.OK, false},
		{sized(1), []int{1 << 40}, 1 << 40, api.OK, true},
		{sized(1), []int{1<<40 + 1}, 0, api.ErrTooLarge, false},
		{sized(1), []int{0}, 0, api.OK, true},
		{example(), nil, 0, api.ErrArgument, false},
		{example(), []int{1}, 0, api.ErrArgument, false},
		{example(), []int{1, 1}, 0, api.ErrArgument, false},
		{example(), []int{1, 1, 1, 1}, 0, api.ErrArgument, false},
		{example(), []int{1, 1, 1, 0}, 0, api.ErrArgument, false},
		{example(), []int{1 << 62, 1 << 62}, 0, api.ErrArgument, false},
		{example(), []int{-1, 0, 0}, 0, api.ErrArgument, false},
		{example(), []int{0, -1, 0}, 0, api.ErrArgument, false},
		{example(), []int{0, 0, -1}, 0, api.ErrArgument, false},
		{example(), []int{math.MinInt, 0, 0}, 0, api.ErrArgument, false},
		{example(), []int{-60, 1, 0}, 0, api.ErrArgument, false},
		{example(), []int{60, -1, 0}, 0, api.ErrArgument, false},
		{example(), []int{math.MaxInt, math.MaxInt, -1}, 0, api.ErrArgument, false},
		{example(), []int{-1, 0, 1 << 62}, 0, api.ErrArgument, false},
		{sized(1), nil, 0, api.ErrArgument, false},
		{sized(1), []int{-1}, 0, api.ErrArgument, false},
	}
}

func TestJoin(t *testing.T) { // P16.2
	for _, c := range partsCases() {
		if n, e := Join(c.units, c.parts); n != c.want || e != c.e {
			t.Errorf("Join(%v, %v) = %d, %d", c.units, c.parts, n, e)
		}
	}
}

func TestNormal(t *testing.T) { // P16.3
	for _, c := range partsCases() {
		if got := Normal(c.units, c.parts); got != c.normal {
			t.Errorf("Normal(%v, %v) = %v", c.units, c.parts, got)
		}
		var want []int
		if c.e == api.OK {
			want = splitBy(c.units, c.want)
		}
		p, e := Normalize(c.units, c.parts)
		if !slices.Equal(p, want) || e != c.e || c.normal && !slices.Equal(p, c.parts) {
			t.Errorf("Normalize(%v, %v) = %v, %d", c.units, c.parts, p, e)
		}
	}
	if p, e := Normalize(example(), []int{65, 0, 1}); !slices.Equal(p, []int{5, 1, 1}) || e != api.OK {
		t.Errorf("%v, %d", p, e)
	}
}

func TestConvert(t *testing.T) { // P16.4
	for _, c := range []struct {
		from, to    []api.Unit
		parts, want []int
		e           api.Errno
	}{
		{example(), quarters(), []int{5, 1, 1}, []int{5, 100}, api.OK},
		{quarters(), example(), []int{5, 100}, []int{5, 1, 1}, api.OK},
		{example(), quarters(), []int{65, 0, 1}, []int{5, 100}, api.OK},
		{example(), example(), []int{65, 0, 1}, []int{5, 1, 1}, api.OK},
		{example(), sized(1), []int{5, 1, 1}, []int{1505}, api.OK},
		{sized(1), example(), []int{1505}, []int{5, 1, 1}, api.OK},
		{sized(1), sized(1, 2, 4, 8, 16, 32, 64, 128), []int{1505}, []int{1, 0, 0, 0, 0, 1, 1, 11}, api.OK},
		{sized(1, 2, 4, 8, 16, 32, 64, 128), sized(1, 1000), []int{1, 1, 1, 1, 1, 1, 1, 11}, []int{535, 1}, api.OK},
		{example(), sized(1, 1000000), []int{16, 12, 763549741}, []int{627776, 1099511}, api.OK},
		{example(), sized(1, 1000000), []int{17, 12, 763549741}, nil, api.ErrTooLarge},
		{example(), quarters(), []int{0, 0, 1 << 62}, nil, api.ErrTooLarge},
		{example(), quarters(), []int{5, 100}, nil, api.ErrArgument},
		{quarters(), example(), []int{5, 1, 1}, nil, api.ErrArgument},
		{example(), quarters(), []int{5, -1, 1}, nil, api.ErrArgument},
		{example(), quarters(), []int{math.MaxInt, 0, -1}, nil, api.ErrArgument},
		{example(), sized(2), []int{5, 1, 1}, nil, api.ErrArgument},
		{example(), nil, []int{0, 0, 1 << 62}, nil, api.ErrArgument},
		{nil, example(), nil, nil, api.ErrArgument},
		{nil, nil, nil, nil, api.ErrArgument},
	} {
		if p, e := Convert(c.from, c.to, c.parts); !slices.Equal(p, c.want) || e != c.e {
			t.Errorf("Convert(%v, %v, %v) = %v, %d", c.from, c.to, c.parts, p, e)
		}
	}
}

func TestMemory(t *testing.T) { // arguments are not modified, and results share no memory
	units, other, p, q := example(), quarters(), []int{5, 1, 1}, []int{65, 0, 1}
	split := func() []int { p, _ := Split(units, 1505); return p }
	normalize := func() []int { p, _ := Normalize(units, p); return p }
	convert := func() []int { p, _ := Convert(units, other, p); return p }
	add := func() []int { p, _ := Add(units, p, []int{0, 0, 0}); return p }
	for i, call := range []func() []int{split, normalize, convert, add} {
		first, second := call(), call()
		want := slices.Clone(first)
		clear(first)
		if !slices.Equal(second, want) || !slices.Equal(call(), want) {
			t.Errorf("%d: %v became %v", i, want, second)
		}
	}
	Check(units)
	Join(units, q)
	Normal(units, q)
	Compare(units, p, q)
	if !reflect.DeepEqual(units, example()) || !reflect.DeepEqual(other, quarters()) || !slices.Equal(p, []int{5, 1, 1}) || !slices.Equal(q, []int{65, 0, 1}) {
		t.Errorf("an argument was changed: %v, %v, %v, %v", units, other, p, q)
	}
}
