package syllable

import (
	"math"
	"math/rand"
	"reflect"
	"slices"
	"strings"
	"testing"
	"unicode/utf8"

	"pentaglot/api"
	"pentaglot/morphology"
)

func TestDefinitions(t *testing.T) { // P13.2 to P13.5, P13.7
	source := rand.New(rand.NewSource(1))
	several, points := 0, 0
	for range 30000 {
		a, p := letters(), randomPhonotactics(source)
		word := randomWord(source, a, 12)
		list, e := Split(a, p, word)
		if want := splitBy(a, p, word); !slices.Equal(list, want) || e != api.OK {
			t.Fatalf("Split(%v, %q) = %q, %d, want %q", p, word, list, e, want)
		}
		at, e := Points(a, p, word)
		if want := pointsBy(a, p, word); !slices.Equal(at, want) || e != api.OK {
			t.Fatalf("Points(%v, %q) = %v, %d, want %v", p, word, at, e, want)
		}
		heavy, e := Heavy(a, p, word)
		if want := heavyBy(a, p, word); !slices.Equal(heavy, want) || e != api.OK {
			t.Fatalf("Heavy(%v, %q) = %v, %d, want %v", p, word, heavy, e, want)
		}
		if cluster := randomWord(source, a, 5); Onset(a, p, cluster) != isOnsetBy(a, p, cluster) {
			t.Fatalf("Onset(%v, %q) = %v", p, cluster, !isOnsetBy(a, p, cluster))
		}
		if len(list) > 2 {
			several++
		}
		points += len(at)
	}
	if several < 10000 || points < 10000 {
		t.Errorf("only %d words had several syllables, only %d points were found", several, points)
	}
}

func TestHyphenateByDefinition(t *testing.T) { // P13.6
	source := rand.New(rand.NewSource(2))
	for range 5000 {
		word := randomWord(source, long(), 8)
		var points []int
		for range source.Intn(6) {
			points = append(points, source.Intn(14)-3)
		}
		given := slices.Clone(points)
		if got, want := Hyphenate(word, points), hyphenateBy(word, points); got != want {
			t.Fatalf("Hyphenate(%q, %v) = %q, want %q", word, points, got, want)
		}
		if !slices.Equal(points, given) {
			t.Fatalf("%v became %v", given, points)
		}
	}
}

// checkDerived checks what follows from the definitions for a word without hyphens.
func checkDerived(t *testing.T, a []api.Letter, p api.Phonotactics, word string) {
	list, e := Split(a, p, word)
	if e != api.OK || strings.Join(list, "") != word {
		t.Fatalf("Split(%q) = %q, %d", word, list, e)
	}
	vowels := len(Nuclei(a, word))
	if want := max(vowels, min(1, len(word))); len(list) != want {
		t.Fatalf("Split(%q) = %q", word, list)
	}
	starts := []int{0}
	for i, s := range list {
		nuclei := Nuclei(a, s)
		if s == "" || vowels > 0 && len(nuclei) != 1 {
			t.Fatalf("Split(%q) = %q", word, list)
		}
		starts = append(starts, starts[i]+utf8.RuneCountInString(s))
		if i == 0 {
			continue
		}
		// The cluster grows by the runes behind the vowel of the earlier syllable.
		earlier := []rune(list[i-1])
		tail := earlier[Nuclei(a, list[i-1])[0]+1:]
		head := string([]rune(s)[:nuclei[0]])
		if !Onset(a, p, head) {
			t.Fatalf("Split(%q) = %q, whose part %q does not begin with an onset", word, list, s)
		}
		for n := range tail {
			if longer := string(tail[n:]) + head; Onset(a, p, longer) {
				t.Fatalf("Split(%q) = %q, but %q is an onset", word, list, longer)
			}
		}
	}
	points, e := Points(a, p, word)
	for i, k := range points {
		if e != api.OK || !slices.Contains(starts[1:len(list)], k) || i > 0 && k <= points[i-1] {
			t.Fatalf("Points(%q) = %v, %d", word, points, e)
		}
	}
	if got := Rejoin(Hyphenate(word, points)); got != word {
		t.Fatalf("%q is rejoined as %q", word, got)
	}
	if got := Rejoin(Hyphenate(word, starts)); got != word || strings.Count(Hyphenate(word, starts), "-") != max(len(list), 1)-1 {
		t.Fatalf("%q is hyphenated as %q", word, Hyphenate(word, starts))
	}
}

func TestDerived(t *testing.T) { // P13.8
	source := rand.New(rand.NewSource(3))
	for range 20000 {
		checkDerived(t, letters(), randomPhonotactics(source), randomWord(source, letters(), 40))
	}
	for _, l := range []api.Language{api.Anta(), api.Bero(), api.Cuni(), api.Delu(), api.Emai()} {
		words := 0
		for form := range morphology.All(l.Words) {
			checkDerived(t, l.Words.Alphabet, l.Phonotactics, form)
			words++
		}
		if words < 50 {
			t.Errorf("only %d words of %s", words, l.Name)
		}
	}
}

func TestBuiltIn(t *testing.T) { // P13.4, P13.5: words of the languages
	for _, c := range []struct {
		l          api.Language
		word, want string
	}{
		{api.Anta(), "kapitano", "ka-pi-ta-no"},
		{api.Anta(), "mostrik", "mos-trik"},
		{api.Bero(), "nordopöril", "nor-do-pö-ril"},
		{api.Bero(), "süter", "sü-ter"},
		{api.Cuni(), "komando", "ko-man-do"},
	} {
		points, e := Points(c.l.Words.Alphabet, c.l.Phonotactics, c.word)
		if got := Hyphenate(c.word, points); got != c.want || e != api.OK {
			t.Errorf("%s: %q, %d", c.l.Name, got, e)
		}
	}
}

func TestAnyArguments(t *testing.T) { // P1 of DOC.md: also arguments whose results are not specified
	lists := [][]api.Letter{nil, {}, letters(), long(), many(64), many(1000), {{Rune: -1, Classes: math.MaxUint32}, {Rune: math.MaxInt32}, {Rune: 0, Classes: api.Vowel}}}
	kinds := []api.Phonotactics{{}, example(), onsets(math.MinInt, math.MaxInt), onsets(8, 8, make([][]uint32, 1000)...), onsets(1, 1, nil, []uint32{}, []uint32{0}, []uint32{math.MaxUint32, 0}), onsets(1, 1, make([]uint32, 10000))}
	words := []string{"", "a", "tantrina", "\xff", "\xc3", "š\xff", "\uFFFD", "\x00", "-", "=", strings.Repeat("ta", 20), strings.Repeat("at", 5000), strings.Repeat("\xff", 5000)}
	for _, a := range lists {
		for _, p := range kinds {
			for _, w := range words {
				Onset(a, p, w)
				Split(a, p, w)
				Points(a, p, w)
				Heavy(a, p, w)
				Nuclei(a, w)
			}
		}
	}
	for _, w := range words {
		Rejoin(Hyphenate(w, []int{math.MinInt, -1, 0, 1, 2, 3, math.MaxInt}))
	}
}

func TestMemory(t *testing.T) { // arguments are not modified, and results share no memory
	a, p := letters(), example()
	type results struct {
		nuclei []int
		list   []string
		points []int
		heavy  []bool
		onset  bool
		a      []api.Letter
		p      api.Phonotactics
	}
	call := func() results {
		list, _ := Split(a, p, "tantrina")
		points, _ := Points(a, p, "tantrina")
		heavy, _ := Heavy(a, p, "tantrina")
		return results{Nuclei(a, "tantrina"), list, points, heavy, Onset(a, p, "tr"), letters(), example()}
	}
	first, second := call(), call()
	clear(first.nuclei)
	clear(first.list)
	clear(first.points)
	clear(first.heavy)
	third := call()
	if !reflect.DeepEqual(second, third) || !reflect.DeepEqual(a, third.a) || !reflect.DeepEqual(p, third.p) {
		t.Errorf("%v became %v", second, third)
	}
	clear(a)
	for _, masks := range p.Onsets {
		clear(masks)
	}
	if !reflect.DeepEqual(second, third) {
		t.Errorf("the results change with the arguments: %v", second)
	}
}
