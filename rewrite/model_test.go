package rewrite

import (
	"math/rand"
	"slices"

	"pentaglot/api"
	"pentaglot/pattern"
)

// letters are those of the chapter's examples.
func letters() []api.Letter {
	return []api.Letter{{Rune: 'a', Classes: api.Vowel | api.Back}, {Rune: 'e', Classes: api.Vowel | api.Front}, {Rune: 't', Classes: api.Consonant}, {Rune: 'd', Classes: api.Consonant}}
}

// many returns n letters.
func many(n int) []api.Letter {
	var out []api.Letter
	for i := range n {
		out = append(out, api.Letter{Rune: rune(0x100 + i), Classes: uint32(1 + i%3)})
	}
	return out
}

// inadmissible returns lists of letters that are not admissible.
func inadmissible() [][]api.Letter {
	with := func(r rune) []api.Letter { return append(letters(), api.Letter{Rune: r}) }
	return [][]api.Letter{nil, {}, many(66), many(1000), with('a'), with('d'), with(32), with(9), with(0), with(-1), with(0xD800), with(0xDFFF), with(0x110000)}
}

// wrong returns rules that are not valid over letters, each for one reason.
func wrong() map[string]api.Rule {
	out := map[string]api.Rule{
		"From is no letter":           {From: 'x'},
		"From is a blank":             {From: 32},
		"From is negative":            {From: -1},
		"From is a surrogate":         {From: 0xD800},
		"From is behind the runes":    {From: 0x110000},
		"To has five runes":           {From: 't', To: "aaaaa"},
		"To has five runes, inserted": {To: "tatat"},
		"To has a million runes":      {To: string(slices.Repeat([]byte{'a'}, 1000000))},
		"To is no letter":             {From: 't', To: "x"},
		"To has a rune more":          {From: 't', To: "ax"},
		"To has a blank":              {From: 't', To: "a a"},
		"To has the rune 0":           {From: 't', To: "\x00"},
		"To is a wrong byte":          {From: 't', To: "\xff"},
		"To has a wrong byte":         {From: 't', To: "a\xc3"},
		"To is a surrogate":           {From: 't', To: "\xed\xa0\x80"},
		"To is U+FFFD":                {From: 't', To: "\uFFFD"},
	}
	for name, items := range map[string][]api.Item{
		"four items":                 make([]api.Item, 4),
		"a hundred items":            make([]api.Item, 100),
		"Letters that are no letter": {{Letters: "x"}},
		"Letters with a rune more":   {{}, {Letters: "ax"}},
		"Letters, Negated":           {{}, {}, {Letters: "xa", Negated: true}},
		"Letters with a wrong byte":  {{Letters: "a\xff", Repeated: true}},
		"Letters with a blank":       {{Letters: " "}},
		"Letters with U+FFFD":        {{Letters: "\uFFFD"}},
	} {
		out[name+" on the left"] = api.Rule{From: 't', To: "d", Left: items}
		out[name+" on the right"] = api.Rule{To: "d", Right: items}
	}
	return out
}

// wrongWords returns strings that are no words over letters.
func wrongWords() []string {
	as := func(n int) string { return string(slices.Repeat([]byte{'a'}, n)) }
	return []string{"x", "ax", "xa", " ", "a t", "\x00", "\xff", "a\xff", "\xc3", "\xed\xa0\x80", "\uFFFD", "=", as(41), as(40) + "\xff", as(1000000)}
}

// sitesBy is the definition of the sites.
func sitesBy(a []api.Letter, r api.Rule, word string) []int {
	w := []rune(word)
	left := func(before []rune) bool {
		for j := range len(before) + 1 {
			if (j == 0 || !r.Initial) && pattern.Matches(a, r.Left, string(before[j:])) {
				return true
			}
		}
		return false
	}
	right := func(behind []rune) bool {
		for j := range len(behind) + 1 {
			if (j == len(behind) || !r.Final) && pattern.Matches(a, r.Right, string(behind[:j])) {
				return true
			}
		}
		return false
	}
	var out []int
	for i := range len(w) + 1 {
		switch {
		case r.From == 0:
			if left(w[:i]) && right(w[i:]) {
				out = append(out, i)
			}
		case i < len(w) && w[i] == r.From:
			if left(w[:i]) && right(w[i+1:]) {
				out = append(out, i)
			}
		}
	}
	return out
}

// resultBy is the definition of the result.
func resultBy(a []api.Letter, r api.Rule, word string) string {
	sites, out := sitesBy(a, r, word), ""
	for i, c := range append([]rune(word), 0) {
		if slices.Contains(sites, i) {
			out += r.To
		}
		if c != 0 && (r.From == 0 || !slices.Contains(sites, i)) {
			out += string(c)
		}
	}
	return out
}

// randomRule returns a rule that is valid over letters.
func randomRule(r *rand.Rand) api.Rule {
	items := func() []api.Item {
		var out []api.Item
		for range r.Intn(4) {
			out = append(out, api.Item{
				Mask:     []uint32{0, 0, api.Vowel, api.Consonant, api.Front, api.Nasal}[r.Intn(6)],
				Letters:  []string{"", "", "", "a", "td", "dea"}[r.Intn(6)],
				Negated:  r.Intn(3) == 0,
				Repeated: r.Intn(2) == 0,
			})
		}
		return out
	}
	return api.Rule{
		From: []rune{0, 'a', 'e', 't', 't'}[r.Intn(5)],
		To:   []string{"", "a", "e", "t", "d", "at", "tede"}[r.Intn(7)],
		Left: items(), Right: items(),
		Initial: r.Intn(3) == 0, Final: r.Intn(3) == 0,
	}
}

// randomWord returns a word over letters of at most n runes.
func randomWord(r *rand.Rand, n int) string {
	out := ""
	for range r.Intn(n + 1) {
		out += string(letters()[r.Intn(4)].Rune)
	}
	return out
}
