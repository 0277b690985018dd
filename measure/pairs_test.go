package measure

import (
	"cmp"
	"math"
	"math/rand"
	"slices"
	"testing"

	"pentaglot/api"
)

// pair are two lists of parts with the result of Compare, that of Add, and the errors of both.
type pair struct {
	p, q    []int
	compare int
	add     []int
	e, f    api.Errno
}

// pairs are right and wrong pairs.
func pairs() []pair {
	great, greater := []int{16, 12, 763549741}, []int{17, 12, 763549741}
	return []pair{
		{[]int{59, 0, 0}, []int{0, 1, 0}, -1, []int{59, 1, 0}, api.OK, api.OK},
		{[]int{60, 0, 0}, []int{0, 1, 0}, 0, []int{0, 2, 0}, api.OK, api.OK},
		{[]int{61, 0, 0}, []int{0, 1, 0}, 1, []int{1, 2, 0}, api.OK, api.OK},
		{[]int{59, 23, 0}, []int{1, 0, 0}, 1, []int{0, 0, 1}, api.OK, api.OK},
		{[]int{0, 0, 0}, []int{0, 0, 0}, 0, []int{0, 0, 0}, api.OK, api.OK},
		{[]int{5, 1, 1}, []int{65, 0, 1}, 0, []int{10, 2, 2}, api.OK, api.OK},
		{[]int{5, 1, 1}, []int{4, 2, 1}, -1, []int{9, 3, 2}, api.OK, api.OK},
		{[]int{0, 0, 2}, []int{59, 23, 1}, 1, []int{59, 23, 3}, api.OK, api.OK},
		{great, []int{0, 0, 0}, 1, great, api.OK, api.OK},
		{[]int{0, 0, 0}, great, -1, great, api.OK, api.OK},
		{great, great, 0, nil, api.OK, api.ErrTooLarge},
		{great, []int{1, 0, 0}, 1, nil, api.OK, api.ErrTooLarge},
		{[]int{1, 0, 0}, great, -1, nil, api.OK, api.ErrTooLarge},
		{[]int{15, 12, 763549741}, []int{1, 0, 0}, 1, great, api.OK, api.OK},
		{[]int{1 << 39, 0, 0}, []int{1 << 39, 0, 0}, 0, great, api.OK, api.OK},
		{[]int{1 << 39, 0, 0}, []int{1<<39 + 1, 0, 0}, -1, nil, api.OK, api.ErrTooLarge},
		{greater, []int{0, 0, 0}, 0, nil, api.ErrTooLarge, api.ErrTooLarge},
		{[]int{0, 0, 0}, greater, 0, nil, api.ErrTooLarge, api.ErrTooLarge},
		{greater, greater, 0, nil, api.ErrTooLarge, api.ErrTooLarge},
		{[]int{math.MaxInt, 0, 0}, []int{math.MaxInt, 0, 0}, 0, nil, api.ErrTooLarge, api.ErrTooLarge},
		{[]int{0, 0, math.MaxInt}, []int{1, 0, 0}, 0, nil, api.ErrTooLarge, api.ErrTooLarge},
		{[]int{1, 0}, []int{1, 0, 0}, 0, nil, api.ErrArgument, api.ErrArgument},
		{[]int{1, 0, 0}, []int{1, 0}, 0, nil, api.ErrArgument, api.ErrArgument},
		{[]int{1, 0, 0}, []int{1, 0, 0, 0}, 0, nil, api.ErrArgument, api.ErrArgument},
		{[]int{1, 0, 0}, nil, 0, nil, api.ErrArgument, api.ErrArgument},
		{nil, nil, 0, nil, api.ErrArgument, api.ErrArgument},
		{[]int{-1, 0, 0}, []int{1, 0, 0}, 0, nil, api.ErrArgument, api.ErrArgument},
		{[]int{1, 0, 0}, []int{0, 0, -1}, 0, nil, api.ErrArgument, api.ErrArgument},
		{[]int{-1, 0, 0}, []int{-1, 0, 0}, 0, nil, api.ErrArgument, api.ErrArgument},
		// What is wrong counts before what is too large.
		{greater, []int{1, 0}, 0, nil, api.ErrArgument, api.ErrArgument},
		{greater, []int{-1, 0, 0}, 0, nil, api.ErrArgument, api.ErrArgument},
		{[]int{1, 0}, greater, 0, nil, api.ErrArgument, api.ErrArgument},
		{[]int{0, -1, 0}, greater, 0, nil, api.ErrArgument, api.ErrArgument},
	}
}

func TestPairs(t *testing.T) { // P16.5
	for _, c := range pairs() {
		if got, e := Compare(example(), c.p, c.q); got != c.compare || e != c.e {
			t.Errorf("Compare(%v, %v) = %d, %d", c.p, c.q, got, e)
		}
		if got, e := Add(example(), c.p, c.q); !slices.Equal(got, c.add) || e != c.f {
			t.Errorf("Add(%v, %v) = %v, %d", c.p, c.q, got, e)
		}
	}
}

func TestDefinitions(t *testing.T) { // P16.1 to P16.5
	source := rand.New(rand.NewSource(1))
	right, great := 0, 0
	for range 40000 {
		units, to := randomUnits(source), randomUnits(source)
		if source.Intn(20) == 0 {
			units[source.Intn(len(units))].Size = source.Intn(200) - 2
		}
		p, q := randomParts(source, units), randomParts(source, units)
		n, e := joinBy(units, p)
		m, f := joinBy(units, q)
		if Check(units) != areUnitsBy(units) || Normal(units, p) != normalBy(units, p) {
			t.Fatalf("%v, %v: Check %v, Normal %v", units, p, Check(units), Normal(units, p))
		}
		if got := result(Join(units, p)); got != result(n, e) {
			t.Fatalf("Join(%v, %v) = %s, want %s", units, p, got, result(n, e))
		}
		var parts, converted, sum []int
		if e == api.OK {
			parts, converted = splitBy(units, n), splitBy(to, n)
		}
		if got, back := result(Normalize(units, p)), result(Convert(units, to, p)); got != result(parts, e) || back != result(converted, e) {
			t.Fatalf("Normalize(%v, %v) = %s, Convert to %v = %s", units, p, got, to, back)
		}
		order, last := 0, errorOfBoth(e, f)
		if last == api.OK {
			order = cmp.Compare(n, m)
			right++
		}
		if got := result(Compare(units, p, q)); got != result(order, last) {
			t.Fatalf("Compare(%v, %v, %v) = %s, want %d, %d", units, p, q, got, order, last)
		}
		if last == api.OK && n+m > 1<<40 {
			last = api.ErrTooLarge
			great++
		}
		if last == api.OK {
			sum = splitBy(units, n+m)
		}
		if got := result(Add(units, p, q)); got != result(sum, last) {
			t.Fatalf("Add(%v, %v, %v) = %s, want %v, %d", units, p, q, got, sum, last)
		}
	}
	if right < 5000 || great < 100 {
		t.Errorf("only %d pairs without an error, %d with too large a sum", right, great)
	}
}

// errorOfBoth returns the error of two lists with these errors.
func errorOfBoth(e, f api.Errno) api.Errno {
	if e == api.ErrArgument || f == api.ErrArgument {
		return api.ErrArgument
	}
	return max(e, f)
}

func TestRoundTrips(t *testing.T) { // P16.6
	source := rand.New(rand.NewSource(2))
	for range 40000 {
		units := randomUnits(source)
		n, m := randomAmount(source), randomAmount(source)
		if source.Intn(4) == 0 {
			m = min(n+source.Intn(3), 1<<40)
		}
		p, e := Split(units, n)
		q, f := Split(units, m)
		if e != api.OK || f != api.OK || !Normal(units, p) || !slices.Equal(p, splitBy(units, n)) {
			t.Fatalf("Split(%v, %d) = %v, %d", units, n, p, e)
		}
		if back, e := Join(units, p); back != n || e != api.OK {
			t.Fatalf("Join(%v, %v) = %d, %d, want %d", units, p, back, e, n)
		}
		// Normal parts are compared from the last one to the first one.
		from := func(parts []int) []int { parts = slices.Clone(parts); slices.Reverse(parts); return parts }
		want := cmp.Compare(n, m)
		if got, e := Compare(units, p, q); got != want || e != api.OK || slices.Compare(from(p), from(q)) != want {
			t.Fatalf("Compare(%v, %v, %v) = %d, %d, want %d", units, p, q, got, e, want)
		}
	}
}
