package algebra

import (
	"maps"
	"math"
	"math/rand"
	"slices"
	"testing"

	"pentaglot/api"
	"pentaglot/transducer"
)

// unary and binary are the functions by their names.
func unary() map[string]func(api.Transducer) (api.Transducer, api.Errno) {
	return map[string]func(api.Transducer) (api.Transducer, api.Errno){"Star": Star, "Invert": Invert, "Reverse": Reverse, "Domain": Domain, "Range": Range}
}

func binary() map[string]func(a, b api.Transducer) (api.Transducer, api.Errno) {
	return map[string]func(a, b api.Transducer) (api.Transducer, api.Errno){"Union": Union, "Concat": Concat}
}

// sample has a start that is not 0, a dead end (0), a state out of reach (4), a double arc and an arc into the start.
func sample() api.Transducer {
	return api.Transducer{States: 5, Start: 2, Finals: []int{1, 3, 4}, Arcs: []api.Arc{{From: 2, To: 0, In: 'x'}, {From: 2, To: 1, In: 'b', Out: 'c'}, {From: 2, To: 1, In: 'a', Out: 'd'}, {From: 2, To: 1, In: 'a', Out: 'd'}, {From: 1, To: 3, Out: 'e'}, {From: 3, To: 2, In: 'f'}, {From: 4, To: 1}}}
}

func TestResults(t *testing.T) { // P4.2: each line of the table, written out
	two := api.Transducer{States: 2, Start: 1, Finals: []int{0}, Arcs: []api.Arc{{From: 1, To: 0, In: 'x', Out: 'y'}}}
	for name, c := range map[string]struct {
		f    func() (api.Transducer, api.Errno)
		want api.Transducer
	}{
		"Union": {
			func() (api.Transducer, api.Errno) { return Union(sample(), two) },
			api.Transducer{States: 6, Finals: []int{1, 3, 4}, Arcs: []api.Arc{{From: 0, To: 2}, {From: 0, To: 5}, {From: 1, To: 3, Out: 'e'}, {From: 2, To: 1, In: 'a', Out: 'd'}, {From: 2, To: 1, In: 'b', Out: 'c'}, {From: 3, To: 2, In: 'f'}, {From: 5, To: 4, In: 'x', Out: 'y'}}},
		},
		"Concat": {
			func() (api.Transducer, api.Errno) { return Concat(sample(), two) },
			api.Transducer{States: 5, Start: 1, Finals: []int{3}, Arcs: []api.Arc{{From: 0, To: 2, Out: 'e'}, {From: 0, To: 4}, {From: 1, To: 0, In: 'a', Out: 'd'}, {From: 1, To: 0, In: 'b', Out: 'c'}, {From: 2, To: 1, In: 'f'}, {From: 2, To: 4}, {From: 4, To: 3, In: 'x', Out: 'y'}}},
		},
		"Star": {
			func() (api.Transducer, api.Errno) { return Star(sample()) },
			api.Transducer{States: 4, Finals: []int{0}, Arcs: []api.Arc{{From: 0, To: 2}, {From: 1, To: 0}, {From: 1, To: 3, Out: 'e'}, {From: 2, To: 1, In: 'a', Out: 'd'}, {From: 2, To: 1, In: 'b', Out: 'c'}, {From: 3, To: 0}, {From: 3, To: 2, In: 'f'}}},
		},
		"Invert": {
			func() (api.Transducer, api.Errno) { return Invert(sample()) },
			api.Transducer{States: 3, Start: 1, Finals: []int{0, 2}, Arcs: []api.Arc{{From: 0, To: 2, In: 'e'}, {From: 1, To: 0, In: 'c', Out: 'b'}, {From: 1, To: 0, In: 'd', Out: 'a'}, {From: 2, To: 1, Out: 'f'}}},
		},
		"Reverse": {
			func() (api.Transducer, api.Errno) { return Reverse(sample()) },
			// State 4 is reached from the new start, but the start of a is not reached from it.
			api.Transducer{States: 4, Finals: []int{2}, Arcs: []api.Arc{{From: 0, To: 1}, {From: 0, To: 3}, {From: 1, To: 2, In: 'a', Out: 'd'}, {From: 1, To: 2, In: 'b', Out: 'c'}, {From: 2, To: 3, In: 'f'}, {From: 3, To: 1, Out: 'e'}}},
		},
		"Domain": {
			func() (api.Transducer, api.Errno) { return Domain(sample()) },
			api.Transducer{States: 3, Start: 1, Finals: []int{0, 2}, Arcs: []api.Arc{{From: 0, To: 2}, {From: 1, To: 0, In: 'a', Out: 'a'}, {From: 1, To: 0, In: 'b', Out: 'b'}, {From: 2, To: 1, In: 'f', Out: 'f'}}},
		},
		"Range": {
			func() (api.Transducer, api.Errno) { return Range(sample()) },
			api.Transducer{States: 3, Start: 1, Finals: []int{0, 2}, Arcs: []api.Arc{{From: 0, To: 2, In: 'e', Out: 'e'}, {From: 1, To: 0, In: 'c', Out: 'c'}, {From: 1, To: 0, In: 'd', Out: 'd'}, {From: 2, To: 1}}},
		},
	} {
		if got, e := c.f(); e != api.OK || !equal(got, c.want) {
			t.Errorf("%s: %v, %d, not %v", name, got, e, c.want)
		}
	}
}

func TestExamples(t *testing.T) { // P4.2: the examples of the chapter
	p, _ := Pairs([2]string{"ab", "c"}, [2]string{"a", ""})
	if s, e := Star(p); e != api.OK || !transducer.Relates(s, "aba", "c") {
		t.Error(s, e)
	}
	w, _ := Words("x")
	if u, e := Union(p, w); e != api.OK || u.States != 7 {
		t.Error(u, e)
	}
}

func TestRawConstructions(t *testing.T) { // P4.2
	r := rand.New(rand.NewSource(1))
	check := func(name string, a, b, got api.Transducer, e api.Errno, raw api.Transducer) {
		if want, we := result(raw); e != we || !equal(got, want) || !transducer.Valid(got) {
			t.Fatalf("%s of %v and %v: %v, %d, not %v", name, a, b, got, e, want)
		}
	}
	for range 2000 {
		a, b := random(r), random(r)
		x, e := Union(a, b)
		check("Union", a, b, x, e, rawUnion(a, b))
		x, e = Concat(a, b)
		check("Concat", a, b, x, e, rawConcat(a, b))
		x, e = Star(a)
		check("Star", a, b, x, e, rawStar(a))
		x, e = Reverse(a)
		check("Reverse", a, b, x, e, rawReverse(a))
		x, e = Invert(a)
		check("Invert", a, b, x, e, rawLabels(a, outOf, inOf))
		x, e = Domain(a)
		check("Domain", a, b, x, e, rawLabels(a, inOf, inOf))
		x, e = Range(a)
		check("Range", a, b, x, e, rawLabels(a, outOf, outOf))
	}
}

func TestEmptyOperands(t *testing.T) { // P4.2: transducers that relate nothing
	none, one := api.Transducer{States: 1}, api.Transducer{States: 1, Finals: []int{0}}
	for _, a := range []api.Transducer{none, dead(512)} {
		for name, f := range unary() {
			want := none
			if name == "Star" {
				want = one
			}
			if got, e := f(a); e != api.OK || !equal(got, want) {
				t.Error(name, got, e)
			}
		}
		for _, b := range []api.Transducer{none, dead(300), one} {
			if got, e := Concat(a, b); e != api.OK || !equal(got, none) {
				t.Error("Concat", got, e)
			}
			if got, e := Concat(b, a); e != api.OK || !equal(got, none) {
				t.Error("Concat", got, e)
			}
		}
		if got, e := Union(a, dead(512)); e != api.OK || !equal(got, none) {
			t.Error("Union", got, e)
		}
		want := api.Transducer{States: 2, Finals: []int{1}, Arcs: []api.Arc{{From: 0, To: 1}}}
		if got, e := Union(a, one); e != api.OK || !equal(got, want) {
			t.Error("Union", got, e)
		}
		if got, e := Union(one, a); e != api.OK || !equal(got, want) {
			t.Error("Union", got, e)
		}
	}
}

func TestInvalid(t *testing.T) { // P4.2, P1: ErrArgument, also where the result would be too large
	large := chain(512)
	for _, bad := range []api.Transducer{
		{},
		{States: -1},
		{States: 513},
		{States: math.MaxInt},
		{States: math.MinInt},
		{States: 1, Start: 1},
		{States: 1, Start: -1},
		{States: 2, Finals: []int{1, 0}},
		{States: 2, Finals: []int{1, 1}},
		{States: 2, Finals: []int{2}},
		{States: 1, Arcs: []api.Arc{{From: 1}}},
		{States: 1, Arcs: []api.Arc{{To: -1}}},
		{States: 1, Arcs: []api.Arc{{In: 0xD800}}},
		{States: 1, Arcs: []api.Arc{{Out: 0x110000}}},
		{States: 1, Arcs: make([]api.Arc, 4097)},
	} {
		for name, f := range unary() {
			if got, e := f(bad); e != api.ErrArgument || !equal(got, api.Transducer{}) {
				t.Error(name, bad, got, e)
			}
		}
		for name, f := range binary() {
			for _, good := range []api.Transducer{{States: 1}, sample(), large} {
				if got, e := f(good, bad); e != api.ErrArgument || !equal(got, api.Transducer{}) {
					t.Error(name, bad, got, e)
				}
				if got, e := f(bad, good); e != api.ErrArgument || !equal(got, api.Transducer{}) {
					t.Error(name, bad, got, e)
				}
			}
			if got, e := f(bad, bad); e != api.ErrArgument || !equal(got, api.Transducer{}) {
				t.Error(name, bad, got, e)
			}
		}
	}
}

func TestTooLarge(t *testing.T) { // P4.2: the limits hold after trimming, not before
	half := fan(2048)
	twice := fan(2048)
	twice.Arcs = append(twice.Arcs, twice.Arcs...)
	other := chain(300)
	other.States, other.Start = 512, 200
	for name, c := range map[string]struct {
		f      func() (api.Transducer, api.Errno)
		states int // 0: too large
		arcs   int
	}{
		"Union of 512 states":             {func() (api.Transducer, api.Errno) { return Union(chain(255), chain(256)) }, 512, 511},
		"Union of 513 states":             {func() (api.Transducer, api.Errno) { return Union(chain(256), chain(256)) }, 0, 0},
		"Union with a dead transducer":    {func() (api.Transducer, api.Errno) { return Union(dead(512), chain(511)) }, 512, 511},
		"Union with 513 states, one dead": {func() (api.Transducer, api.Errno) { return Union(chain(512), dead(512)) }, 0, 0},
		"Union with unreachable states":   {func() (api.Transducer, api.Errno) { return Union(other, other) }, 201, 200},
		"Union of 4096 arcs":              {func() (api.Transducer, api.Errno) { return Union(half, fan(2046)) }, 5, 4096},
		"Union of 4097 arcs":              {func() (api.Transducer, api.Errno) { return Union(half, fan(2047)) }, 0, 0},
		"Union of double arcs":            {func() (api.Transducer, api.Errno) { return Union(twice, fan(2046)) }, 5, 4096},
		"Concat of 512 states":            {func() (api.Transducer, api.Errno) { return Concat(chain(255), chain(257)) }, 512, 511},
		"Concat of 513 states":            {func() (api.Transducer, api.Errno) { return Concat(chain(256), chain(257)) }, 0, 0},
		"Concat with a dead transducer":   {func() (api.Transducer, api.Errno) { return Concat(chain(512), dead(512)) }, 1, 0},
		"Concat of 4096 arcs":             {func() (api.Transducer, api.Errno) { return Concat(half, fan(2047)) }, 4, 4096},
		"Concat of 4097 arcs":             {func() (api.Transducer, api.Errno) { return Concat(half, half) }, 0, 0},
		"Concat of double arcs":           {func() (api.Transducer, api.Errno) { return Concat(twice, fan(2047)) }, 4, 4096},
		"Star of 511 states":              {func() (api.Transducer, api.Errno) { return Star(chain(511)) }, 512, 512},
		"Star of 512 states":              {func() (api.Transducer, api.Errno) { return Star(chain(512)) }, 0, 0},
		"Star of 4094 arcs":               {func() (api.Transducer, api.Errno) { return Star(fan(4094)) }, 3, 4096},
		"Star of 4095 arcs":               {func() (api.Transducer, api.Errno) { return Star(fan(4095)) }, 0, 0},
		"Star of 4096 double arcs":        {func() (api.Transducer, api.Errno) { return Star(twice) }, 3, 2050},
		"Reverse of 511 states":           {func() (api.Transducer, api.Errno) { return Reverse(chain(511)) }, 512, 511},
		"Reverse of 512 states":           {func() (api.Transducer, api.Errno) { return Reverse(chain(512)) }, 0, 0},
		"Reverse of 4095 arcs":            {func() (api.Transducer, api.Errno) { return Reverse(fan(4095)) }, 3, 4096},
		"Reverse of 4096 arcs":            {func() (api.Transducer, api.Errno) { return Reverse(fan(4096)) }, 0, 0},
		"Invert of 512 states":            {func() (api.Transducer, api.Errno) { return Invert(chain(512)) }, 512, 511},
		"Invert of 4096 arcs":             {func() (api.Transducer, api.Errno) { return Invert(fan(4096)) }, 2, 4096},
		"Domain of 4096 arcs":             {func() (api.Transducer, api.Errno) { return Domain(fan(4096)) }, 2, 4096},
		"Range of 4096 arcs":              {func() (api.Transducer, api.Errno) { return Range(fan(4096)) }, 2, 4096},
	} {
		got, e := c.f()
		if c.states == 0 && (e != api.ErrTooLarge || !equal(got, api.Transducer{})) {
			t.Error(name, got.States, len(got.Arcs), e)
		}
		if c.states > 0 && (e != api.OK || got.States != c.states || len(got.Arcs) != c.arcs || !transducer.Valid(got)) {
			t.Error(name, got.States, len(got.Arcs), e)
		}
	}
}

func TestUnionConcatStarRelations(t *testing.T) { // P4.3
	const n = 3
	r := rand.New(rand.NewSource(2))
	for range 150 {
		a, b := random(r), random(r)
		ra, rb := relation(a, n), relation(b, n)
		u, _ := Union(a, b)
		want := maps.Clone(ra)
		maps.Copy(want, rb)
		if got := relation(u, n); !maps.Equal(got, want) {
			t.Fatalf("Union(%v, %v) relates %v, not %v", a, b, got, want)
		}
		c, _ := Concat(a, b)
		if got, want := relation(c, n), products(ra, rb, n); !maps.Equal(got, want) {
			t.Fatalf("Concat(%v, %v) relates %v, not %v", a, b, got, want)
		}
		s, _ := Star(a)
		want = map[[2]string]bool{{"", ""}: true}
		for size := 0; size < len(want); {
			size = len(want)
			maps.Copy(want, products(want, ra, n))
		}
		if got := relation(s, n); !maps.Equal(got, want) {
			t.Fatalf("Star(%v) relates %v, not %v", a, got, want)
		}
	}
}

func TestInvertReverseRelations(t *testing.T) { // P4.4
	r := rand.New(rand.NewSource(3))
	for range 200 {
		a := random(r)
		inverse, back := map[[2]string]bool{}, map[[2]string]bool{}
		for p := range relation(a, 3) {
			inverse[[2]string{p[1], p[0]}] = true
			back[[2]string{reversed(p[0]), reversed(p[1])}] = true
		}
		x, _ := Invert(a)
		if got := relation(x, 3); !maps.Equal(got, inverse) {
			t.Fatalf("Invert(%v) relates %v", a, got)
		}
		x, _ = Reverse(a)
		if got := relation(x, 3); !maps.Equal(got, back) {
			t.Fatalf("Reverse(%v) relates %v", a, got)
		}
	}
}

func TestDomainRangeRelations(t *testing.T) { // P4.4
	r := rand.New(rand.NewSource(4))
	for range 200 {
		a := random(r)
		d, _ := Domain(a)
		g, _ := Range(a)
		rd, rg := relation(d, 3), relation(g, 3)
		for p := range rd {
			if p[0] != p[1] {
				t.Fatalf("Domain(%v) relates %q", a, p)
			}
		}
		for p := range rg {
			if p[0] != p[1] {
				t.Fatalf("Range(%v) relates %q", a, p)
			}
		}
		i, _ := Invert(a)
		for _, x := range strs(3) {
			if rd[[2]string{x, x}] != anyOutput(a, x) {
				t.Fatalf("Domain(%v), %q", a, x)
			}
			if rg[[2]string{x, x}] != anyOutput(i, x) {
				t.Fatalf("Range(%v), %q", a, x)
			}
		}
	}
}

// anyOutput reports whether a relates x, of at most 3 runes, to some string. A shortest path to the end has at most 4 spots for each number of runes that are read.
func anyOutput(a api.Transducer, x string) bool {
	list, e := transducer.Outputs(a, x, 16)
	return e == api.ErrTooLarge || len(list) > 0
}

func TestEqualities(t *testing.T) { // P4.5
	type pair struct {
		t api.Transducer
		e api.Errno
	}
	invert := func(a api.Transducer) api.Transducer {
		x, _ := Invert(a)
		return x
	}
	// then applies f to a result, unless that is an error.
	then := func(f func(api.Transducer) (api.Transducer, api.Errno), a api.Transducer, e api.Errno) pair {
		if e != api.OK {
			return pair{e: e}
		}
		x, e := f(a)
		return pair{x, e}
	}
	check := func(name string, a, b api.Transducer, x, y pair) {
		if (x.e == api.OK) != (y.e == api.OK) || !equal(x.t, y.t) {
			t.Fatalf("%s: %v, %v: %v and %v", name, a, b, x, y)
		}
	}
	make2 := func(x api.Transducer, e api.Errno) pair { return pair{x, e} }
	same := func(a, b api.Transducer) {
		x, e := Invert(a)
		check("Invert twice", a, b, then(Invert, x, e), pair{t: transducer.Trim(a)})
		x, e = Concat(a, b)
		check("Invert and Concat", a, b, then(Invert, x, e), make2(Concat(invert(a), invert(b))))
		x, e = Union(a, b)
		check("Invert and Union", a, b, then(Invert, x, e), make2(Union(invert(a), invert(b))))
		x, e = Star(a)
		check("Invert and Star", a, b, then(Invert, x, e), make2(Star(invert(a))))
		x, e = Invert(a)
		check("Domain and Invert", a, b, then(Domain, x, e), make2(Range(a)))
		x, e = Domain(a)
		check("Domain twice", a, b, then(Domain, x, e), pair{t: x})
	}
	r := rand.New(rand.NewSource(5))
	for range 1000 {
		same(random(r), random(r))
	}
	same(chain(512), chain(512))
	same(chain(511), dead(511))
	same(fan(4096), fan(2047))
	same(fan(2048), fan(2046))
}

func TestArgumentsStay(t *testing.T) { // the rules on memory
	a, b := sample(), chain(4)
	spoil := func(x api.Transducer) {
		for i := range x.Finals {
			x.Finals[i] = 99
		}
		for i := range x.Arcs {
			x.Arcs[i] = api.Arc{From: 99}
		}
	}
	for name, f := range unary() {
		x, _ := f(a)
		y, _ := f(a)
		spoil(x)
		if z, _ := f(a); !equal(a, sample()) || !equal(y, z) {
			t.Error(name)
		}
	}
	for name, f := range binary() {
		x, _ := f(a, b)
		y, _ := f(a, b)
		spoil(x)
		if z, _ := f(a, b); !equal(a, sample()) || !equal(b, chain(4)) || !equal(y, z) {
			t.Error(name)
		}
	}
	list := [][2]string{{"b", "a"}, {"a", "b"}}
	x, _ := Pairs(list...)
	spoil(x)
	if !slices.Equal(list, [][2]string{{"b", "a"}, {"a", "b"}}) {
		t.Error("Pairs")
	}
}
