package clitic

import (
	"fmt"
	"math/rand"
	"reflect"
	"slices"
	"strings"
	"testing"

	"pentaglot/api"
)

func TestSplit(t *testing.T) { // P14.3
	drop := []api.Rule{{From: 'e', Right: mask(api.Boundary)}}
	// Four letters come before a clitic with a, and are lost before a clitic with e.
	waves := []api.Rule{
		{To: "dddd", Right: []api.Item{{Mask: api.Boundary}, {Letters: "a"}}},
		{From: 'd', Right: []api.Item{{Letters: "=", Negated: true, Repeated: true}, {Letters: "="}, {Letters: "e"}}},
	}
	for _, c := range []struct {
		name           string
		sandhi         []api.Rule
		hosts, clitics string // separated by commas
		word           string
		want           string
	}{
		{"example 3", example(), "tat,ta", "at,t", "tat", "tat, ta+at, ta+t"},
		{"the hosts in the other order", example(), "ta,tat", "at,t", "tat", "ta+at, ta+t, tat"},
		{"the clitics in the other order", example(), "tat,ta", "t,at", "tat", "tat, ta+t, ta+at"},
		{"no such host", example(), "dad,e", "at,t", "tat", ""},
		{"no such clitic", example(), "ta", "e,d", "tat", ""},
		{"two clitics", nil, "t", "a,e", "tae", "t+a+e"},
		{"the same clitic twice", nil, "t", "a,e", "taa", "t+a+a"},
		{"three clitics would be needed", nil, "t", "a,e", "taaa", ""},
		{"fewer clitics first", nil, "t,ta", "a,aa", "taa", "t+aa, t+a+a, ta+a"},
		{"one clitic before two, with a later index", nil, "t", "a,e,ae", "tae", "t+ae, t+a+e"},
		{"the first clitic decides before the second one", nil, "", "a,aa,aaa", "aaaa", "+a+aaa, +aa+aa, +aaa+a"},
		{"the second clitic in its order", drop, "t", "a,e,", "ta", "t+a, t+a+, t+e+a, t++a"},
		{"repeated hosts", nil, "ta,t,ta,t", "a", "ta", "ta, t+a"},
		{"repeated clitics", nil, "t", "a,a,e,a,e", "tae", "t+a+e"},
		{"a repeated clitic, twice", nil, "t", "a,a", "taa", "t+a+a"},
		{"a first occurrence determines the order", nil, "t,ta,t", "aa,a,aa", "taa", "t+aa, t+a+a, ta+a"},
		{"the empty clitic", nil, "ta", ",a", "ta", "ta, ta+, ta++"},
		{"the empty clitic and another one", nil, "t", "a,", "ta", "t+a, t+a+, t++a"},
		{"the empty host", nil, ",t", "t,a", "t", "+t, t"},
		{"the empty word", nil, ",t", ",a", "", ", +, ++"},
		{"the empty word, of letters that are lost", []api.Rule{{From: 't'}, {From: 'a'}}, "ta,e", "a,e", "", "ta+a, ta+a+a"},
		{"a rule that applies to the second clitic only", example(), "t", "at,e", "tade", "t+at+e"},
		{"a rule that applies twice", drop, "te,t", "e,a", "ta", "te+a, te+e+a, t+a, t+e+a"},
		{"a rule that applies to hosts without clitics does not apply", []api.Rule{{From: 't', To: "d"}}, "tat,dad", "a,", "dada", "tat+a, tat+a+, tat++a, dad+a, dad+a+, dad++a"},
		{"no hosts", nil, "none", "a", "a", ""},
		{"a letter that is written only", []api.Rule{{To: "d", Right: mask(api.Boundary)}}, "t,td", "a", "tda", "t+a"},
		{"a letter that is replaced and one that is written", []api.Rule{{From: 't', To: "d", Left: mask(api.Boundary)}}, "a", "t,d", "ad", "a+t, a+d"},
		{"longer in between", waves, "t,td", "a,e", "tae", "t+a+e, td+a+e"},
		{"at most 40 letters in between", waves, ts(33), "a,e", ts(33) + "ae", ts(33) + "+a+e"},
		{"too large in between", waves, ts(34), "a,e", ts(34) + "ae", ""},
		{"too large to be lost", []api.Rule{{From: 'a'}}, as(39) + "," + as(38), "a", "", as(38) + "+a, " + as(38) + "+a+a"},
		{"too large in the first step", []api.Rule{{From: 'a'}}, as(40) + "," + as(38), "a,t", "t", as(38) + "+t, " + as(38) + "+a+t, " + as(38) + "+t+a"},
		{"40 letters", nil, ts(38) + "," + ts(40), "t,tt,", ts(40), ts(40)},
		{"39 letters", nil, ts(38) + "," + ts(39), "t,tt,", ts(39), ts(38) + "+t, " + ts(38) + "+t+, " + ts(38) + "++t, " + ts(39) + ", " + ts(39) + "+, " + ts(39) + "++"},
	} {
		hosts, clitics := strings.Split(c.hosts, ","), strings.Split(c.clitics, ",")
		if c.hosts == "none" {
			hosts = nil
		}
		got, e := Split(letters(), c.sandhi, hosts, clitics, c.word)
		want := splitBy(letters(), c.sandhi, hosts, clitics, c.word)
		if e != api.OK || listed(got) != listed(want) {
			t.Errorf("%s: %q, %d, want %q", c.name, listed(got), e, listed(want))
		}
		if listed(got) != c.want {
			t.Errorf("%s: %q", c.name, listed(got))
		}
	}
}

func TestSplitLimit(t *testing.T) { // P14.3: section Errors
	// Each of n hosts loses its letters, and has one segment with the clitic.
	words := func(n int) []string {
		var out []string
		for i := range n {
			out = append(out, ts(i%16)+"d"+ts(i/16))
		}
		return out
	}
	lost := []api.Rule{{From: 't'}, {From: 'd'}}
	for n, want := range map[int]api.Errno{1: api.OK, 255: api.OK, 256: api.OK, 257: api.ErrTooLarge, 300: api.ErrTooLarge} {
		got, e := Split(letters(), lost, words(n), []string{"a"}, "a")
		if e != want || e == api.OK && len(got) != n || e != api.OK && got != nil {
			t.Errorf("%d segments: %d, %d", n, len(got), e)
		}
		// Repeated and other words do not count.
		if got, e := Split(letters(), lost, slices.Repeat(words(min(n, 256)), 2), []string{"a", "e", "a", "aa"}, "a"); e != api.OK || len(got) != min(n, 256) {
			t.Errorf("%d segments of repeated words: %d, %d", n, len(got), e)
		}
	}
	// All of these are lost: 1 + 15 + 15 * 15 segments, and 1 + 16 + 16 * 16, which are too many.
	for n, want := range map[int]int{15: 241, 16: 0} {
		got, e := Split(letters(), lost, []string{""}, words(16)[:n], "")
		if len(got) != want || (e == api.OK) != (want > 0) || e != api.OK && e != api.ErrTooLarge {
			t.Errorf("%d clitics: %d, %d", n, len(got), e)
		}
	}
	if got, e := Split(letters(), lost, append(words(300), "x"), []string{"a"}, "a"); got != nil || e != api.ErrArgument {
		t.Errorf("a wrong host after 300 segments: %d, %d", len(got), e)
	}
}

func TestSplitErrors(t *testing.T) { // P14.3: section Errors
	boundary := append(letters(), api.Letter{Rune: '='})
	for _, c := range []struct {
		name           string
		a              []api.Letter
		sandhi         []api.Rule
		hosts, clitics []string
		word           string
		want           api.Errno
	}{
		{"the example", letters(), example(), []string{"tat", "ta"}, []string{"at", "t"}, "tat", api.OK},
		{"no hosts and clitics", letters(), nil, nil, nil, "", api.OK},
		{"no letters", nil, nil, nil, nil, "", api.ErrArgument},
		{"the boundary as a letter", boundary, nil, nil, nil, "", api.ErrArgument},
		{"a wrong rule", letters(), []api.Rule{{From: '='}}, nil, nil, "", api.ErrArgument},
		{"64 rules", letters(), make([]api.Rule, 64), nil, nil, "", api.OK},
		{"65 rules", letters(), make([]api.Rule, 65), nil, nil, "", api.ErrArgument},
		{"a first host that is no word", letters(), nil, []string{"x", "a"}, nil, "a", api.ErrArgument},
		{"a last host that is no word", letters(), nil, []string{"a", "a", "a="}, nil, "a", api.ErrArgument},
		{"a host of 40 letters", letters(), nil, []string{ts(40)}, nil, "a", api.OK},
		{"a host of 41 letters", letters(), nil, []string{ts(41)}, nil, "a", api.ErrArgument},
		{"a first clitic that is no word", letters(), nil, nil, []string{"=a", "a"}, "a", api.ErrArgument},
		{"a last clitic that is no word", letters(), nil, []string{"a"}, []string{"a", "a", "\xff"}, "a", api.ErrArgument},
		{"a clitic of 40 letters", letters(), nil, nil, []string{ts(40)}, "a", api.OK},
		{"a clitic of 41 letters", letters(), nil, nil, []string{ts(41)}, "a", api.ErrArgument},
		{"another letter in the word", letters(), nil, []string{"a"}, nil, "ax", api.ErrArgument},
		{"a boundary in the word", letters(), nil, []string{"a"}, []string{"a"}, "a=a", api.ErrArgument},
		{"a wrong byte in the word", letters(), nil, []string{"a"}, nil, "a\xff", api.ErrArgument},
		{"a word of 40 letters", letters(), nil, []string{"a"}, nil, ts(40), api.OK},
		{"a word of 41 letters", letters(), nil, []string{"a"}, nil, ts(41), api.ErrArgument},
	} {
		if got, e := Split(c.a, c.sandhi, c.hosts, c.clitics, c.word); e != c.want || e != api.OK && got != nil {
			t.Errorf("%s: %v, %d", c.name, got, e)
		}
	}
}

func TestDefinitions(t *testing.T) { // P14.2 to P14.5
	source := rand.New(rand.NewSource(1))
	found, changed, many, lost := 0, 0, 0, 0
	for range 6000 {
		sandhi := randomSandhi(source)
		hosts, clitics := randomWords(source, 4, 4), randomWords(source, 3, 3)
		s := api.Segment{Host: randomWord(source, 4), Clitics: randomWords(source, 4, 9)}
		form, ok := attachBy(letters(), sandhi, s)
		got, e := AttachAll(letters(), sandhi, s)
		if got != form || (e == api.OK) != ok || e != api.OK && e != api.ErrTooLarge {
			t.Fatalf("AttachAll(%v, %v) = %q, %d, want %q", sandhi, s, got, e, form)
		}
		if !ok {
			lost++
			continue
		}
		// The segment is one of those that must be found, if it is short enough.
		hosts, clitics = append(hosts, s.Host), append(clitics, s.Clitics[:min(2, len(s.Clitics))]...)
		form, ok = attachBy(letters(), sandhi, api.Segment{Host: s.Host, Clitics: s.Clitics[:min(2, len(s.Clitics))]})
		if !ok {
			t.Fatalf("%v: %v is longer than its beginning", sandhi, s)
		}
		list, e := Split(letters(), sandhi, hosts, clitics, form)
		want := splitBy(letters(), sandhi, hosts, clitics, form)
		if listed(list) != listed(want) || e != api.OK || len(list) == 0 {
			t.Fatalf("Split(%v, %q, %q, %q) = %q, %d, want %q", sandhi, hosts, clitics, form, listed(list), e, listed(want))
		}
		checkSegments(t, sandhi, list, form)
		found += len(list)
		if form != s.Host+strings.Join(s.Clitics[:min(2, len(s.Clitics))], "") {
			changed++
		}
		if len(list) > 2 {
			many++
		}
	}
	if found < 5000 || changed < 1000 || many < 1000 || lost < 20 {
		t.Errorf("only %d segments, %d that changed, %d words of several, %d too large", found, changed, many, lost)
	}
}

// checkSegments checks that the segments have the attached form.
func checkSegments(t *testing.T, sandhi []api.Rule, list []api.Segment, form string) {
	for _, s := range list {
		if got, e := AttachAll(letters(), sandhi, s); got != form || e != api.OK {
			t.Fatalf("%v: %v has the form %q, %d, want %q", sandhi, s, got, e, form)
		}
		if len(sandhi) == 0 && form != s.Host+strings.Join(s.Clitics, "") {
			t.Fatalf("without rules %v has the form %q", s, form)
		}
		if len(s.Clitics) != 1 {
			continue
		}
		if got, e := Attach(letters(), sandhi, s.Host, s.Clitics[0]); got != form || e != api.OK {
			t.Fatalf("%v: Attach of %v is %q, %d", sandhi, s, got, e)
		}
		if is, e := Plain(letters(), sandhi, s.Host, s.Clitics[0]); is != (form == s.Host+s.Clitics[0]) || e != api.OK {
			t.Fatalf("%v: Plain of %v is %v, %d", sandhi, s, is, e)
		}
	}
}

func TestConcatenation(t *testing.T) { // P14.5
	source := rand.New(rand.NewSource(2))
	for range 2000 {
		s := api.Segment{Host: randomWord(source, 8), Clitics: randomWords(source, 5, 8)}
		whole := s.Host + strings.Join(s.Clitics, "")
		got, e := AttachAll(letters(), nil, s)
		if len(whole) < 40 && (got != whole || e != api.OK) || len(whole) > 40 && e != api.ErrTooLarge {
			t.Fatalf("%v: %q, %d", s, got, e)
		}
	}
}

func TestManyWords(t *testing.T) { // P1 of DOC.md: a vocabulary is searched without attaching each pair of clitics to each host
	var hosts, clitics []string
	for i := range 20000 {
		hosts = append(hosts, strings.NewReplacer("0", "a", "1", "e", "2", "t", "3", "d").Replace(fmt.Sprintf("%08b", i)+fmt.Sprint(i%4)))
	}
	for i := range 200 {
		clitics = append(clitics, strings.NewReplacer("0", "t", "1", "e").Replace(fmt.Sprintf("%08b", i)))
	}
	word := hosts[12345] + clitics[67] + clitics[89]
	drop := []api.Rule{{From: 'd', Right: mask(api.Boundary)}}
	got, e := Split(letters(), drop, hosts, clitics, word)
	if e != api.OK || !strings.Contains(listed(got), segmentText(hosts[12345], clitics[67], clitics[89])) {
		t.Errorf("%q, %d", listed(got), e)
	}
}

// segmentText returns the text of a segment.
func segmentText(host string, clitics ...string) string {
	return listed([]api.Segment{{Host: host, Clitics: clitics}})
}

func TestMemory(t *testing.T) { // section Rules of DOC.md
	a, sandhi := letters(), example()
	hosts, clitics := []string{"tat", "ta", "tat"}, []string{"at", "t", "", "at"}
	s := segment("tat+e+a")
	first, e := Split(a, sandhi, hosts, clitics, "tat")
	second, f := Split(a, sandhi, hosts, clitics, "tat")
	want := listed(splitBy(letters(), example(), hosts, clitics, "tat"))
	if e != api.OK || f != api.OK || listed(first) != want {
		t.Fatalf("%q, %d, %d", listed(first), e, f)
	}
	AttachAll(a, sandhi, s)
	Attach(a, sandhi, "tat", "e")
	Plain(a, sandhi, "tat", "e")
	Valid(a, sandhi)
	if !slices.Equal(hosts, []string{"tat", "ta", "tat"}) || !slices.Equal(clitics, []string{"at", "t", "", "at"}) || !reflect.DeepEqual(s, segment("tat+e+a")) || !slices.Equal(a, letters()) || !reflect.DeepEqual(sandhi, example()) {
		t.Errorf("an argument was changed: %q, %q, %v, %v, %v", hosts, clitics, s, a, sandhi)
	}
	// No two segments have room in common, and nothing is shared with the arguments or with other results.
	for i := range first {
		before := listed(first)
		_ = append(first[i].Clitics, "z")
		if listed(first) != before {
			t.Errorf("segments share room: %q", listed(first))
		}
		before = listed(first[:i]) + listed(first[i+1:])
		for k := range first[i].Clitics {
			first[i].Clitics[k] = "x"
		}
		if listed(first[:i])+listed(first[i+1:]) != before {
			t.Errorf("segments share memory: %q", listed(first))
		}
	}
	clear(hosts)
	clear(clitics)
	if listed(second) != want {
		t.Errorf("%q became %q", want, listed(second))
	}
}
