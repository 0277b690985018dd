package feature

import (
	"slices"
	"testing"
)

func TestTableFind(t *testing.T) { // P2.7
	x := New[int]()
	x.Add(rec("number=pl"), 1)
	x.Add(nil, 2)
	x.Add(rec("case=acc number=pl"), 3)
	for _, c := range []struct {
		r    string
		want int
	}{{"case=acc number=pl", 1}, {"number=sg", 2}, {"", 2}} {
		if v, ok := x.Find(rec(c.r)); v != c.want || !ok {
			t.Errorf("Find(%q) = %d, %v, want %d", c.r, v, ok, c.want)
		}
	}
}

func TestTableFindNone(t *testing.T) { // P2.7
	if v, ok := New[string]().Find(nil); v != "" || ok {
		t.Errorf("Find = %q, %v", v, ok)
	}
	x := New[string]()
	x.Add(rec("a=1 b=1"), "x")
	for _, r := range []string{"", "a=1", "a=1 b=2", "b=1 c=1"} {
		if v, ok := x.Find(rec(r)); v != "" || ok {
			t.Errorf("Find(%q) = %q, %v", r, v, ok)
		}
	}
	x.Add(nil, "")
	if v, ok := x.Find(nil); v != "" || !ok {
		t.Errorf("Find of a zero value = %q, %v", v, ok)
	}
}

func TestTableMatches(t *testing.T) { // P2.7
	x := New[int]()
	for i, when := range []string{"a=1", "", "a=2", "b=1", "a=1 b=1", "a=1", ""} {
		x.Add(rec(when), i)
	}
	for _, c := range []struct {
		r    string
		want []int
	}{{"a=1 b=1", []int{0, 1, 3, 4, 5, 6}}, {"a=1", []int{0, 1, 5, 6}}, {"", []int{1, 6}}, {"a=2 c=1", []int{1, 2, 6}}} {
		if got := slices.Collect(x.Matches(rec(c.r))); !slices.Equal(got, c.want) {
			t.Errorf("Matches(%q) = %v, want %v", c.r, got, c.want)
		}
	}
	for limit := 1; limit <= 4; limit++ {
		calls := 0
		x.Matches(rec("a=1"))(func(int) bool {
			calls++
			return calls < limit
		})
		if calls != limit {
			t.Errorf("yield was called %d times after it returned false", calls-limit)
		}
	}
	if got := slices.Collect(New[int]().Matches(nil)); len(got) != 0 {
		t.Errorf("an empty table has the matches %v", got)
	}
}

func TestTableLen(t *testing.T) { // P2.7
	x, y := New[int](), New[int]()
	for i := range 100 {
		if x.Len() != i {
			t.Errorf("Len = %d, want %d", x.Len(), i)
		}
		x.Add(nil, 7) // equal entries count each
	}
	if x.Len() != 100 || y.Len() != 0 {
		t.Errorf("Len = %d, %d", x.Len(), y.Len())
	}
}

func TestTableKeepsNoReference(t *testing.T) { // section Rules of DOC.md
	when, query := rec("a=1"), rec("a=1")
	x := New[int]()
	x.Add(when, 1)
	when[0].Value = "2"
	if v, ok := x.Find(rec("a=1")); v != 1 || !ok {
		t.Errorf("Find = %d, %v after the added record was changed", v, ok)
	}
	matches := x.Matches(query)
	query[0].Value = "2"
	for range 2 { // an iterator starts anew with every range over it
		if got := slices.Collect(matches); !slices.Equal(got, []int{1}) {
			t.Errorf("Matches = %v after the query was changed", got)
		}
	}
}

// The result of a call is fixed when it returns: later entries belong to later calls.
func TestTableAddWhileMatching(t *testing.T) { // P2.7, section Rules of DOC.md
	x := New[int]()
	x.Add(nil, 1)
	matches := x.Matches(nil)
	x.Add(nil, 2)
	for v := range matches {
		x.Add(nil, v+10)
	}
	if got := slices.Collect(matches); !slices.Equal(got, []int{1}) {
		t.Errorf("the earlier call has the matches %v", got)
	}
	if got := slices.Collect(x.Matches(nil)); !slices.Equal(got, []int{1, 2, 11}) {
		t.Errorf("Matches = %v", got)
	}
}
