package clitic

import (
	"math/rand"
	"slices"
	"strings"

	"pentaglot/api"
	"pentaglot/rewrite"
)

// letters are those of the chapter's examples.
func letters() []api.Letter {
	return []api.Letter{{Rune: 'a', Classes: api.Vowel}, {Rune: 'e', Classes: api.Vowel}, {Rune: 't', Classes: api.Consonant}, {Rune: 'd', Classes: api.Consonant | api.Voiced}}
}

// example is the sandhi of the chapter's examples.
func example() []api.Rule {
	return []api.Rule{
		{From: 't', To: "d", Left: mask(api.Vowel), Right: mask(api.Boundary, api.Vowel)},
		{From: 'a', Right: []api.Item{{Mask: api.Boundary}, {Letters: "a"}}},
	}
}

// mask returns a pattern of masks.
func mask(masks ...uint32) []api.Item {
	var out []api.Item
	for _, m := range masks {
		out = append(out, api.Item{Mask: m})
	}
	return out
}

// many returns n letters without classes.
func many(n int) []api.Letter {
	var out []api.Letter
	for i := range n {
		out = append(out, api.Letter{Rune: rune(0x100 + i)})
	}
	return out
}

// segment returns a segment of words that are separated by +.
func segment(text string) api.Segment {
	words := strings.Split(text, "+")
	return api.Segment{Host: words[0], Clitics: words[1:]}
}

// listed returns segments as a text.
func listed(list []api.Segment) string {
	var out []string
	for _, s := range list {
		out = append(out, strings.Join(append([]string{s.Host}, s.Clitics...), "+"))
	}
	return strings.Join(out, ", ")
}

// attachBy is the definition of attaching; false if something is too large.
func attachBy(a []api.Letter, sandhi []api.Rule, s api.Segment) (string, bool) {
	extended := append(slices.Clone(a), api.Letter{Rune: '=', Classes: 1 << 31})
	form := s.Host
	for _, c := range s.Clitics {
		form += "=" + c
		for _, r := range sandhi {
			// The error of a word of more than 40 letters is another one here.
			var e api.Errno
			if form, e = rewrite.Apply(extended, r, form); e != api.OK {
				return "", false
			}
		}
		if len([]rune(form)) > 40 {
			return "", false
		}
		if strings.Count(form, "=") != 1 {
			panic("the boundary does not occur once in " + form)
		}
		form = strings.Replace(form, "=", "", 1)
	}
	return form, true
}

// splitBy is the definition of Split for valid arguments, without its limit.
func splitBy(a []api.Letter, sandhi []api.Rule, hosts, clitics []string, word string) []api.Segment {
	first := func(list []string, i int) bool { return slices.Index(list, list[i]) == i }
	var out []api.Segment
	try := func(s api.Segment) {
		if form, ok := attachBy(a, sandhi, s); ok && form == word {
			out = append(out, s)
		}
	}
	for h := range hosts {
		if !first(hosts, h) {
			continue
		}
		var two []api.Segment
		try(api.Segment{Host: hosts[h]})
		for i := range clitics {
			if !first(clitics, i) {
				continue
			}
			try(api.Segment{Host: hosts[h], Clitics: []string{clitics[i]}})
			for j := range clitics {
				if first(clitics, j) {
					two = append(two, api.Segment{Host: hosts[h], Clitics: []string{clitics[i], clitics[j]}})
				}
			}
		}
		for _, s := range two {
			try(s)
		}
	}
	return out
}

// randomSandhi returns a sandhi that is valid for letters.
func randomSandhi(r *rand.Rand) []api.Rule {
	items := func() []api.Item {
		var out []api.Item
		for range r.Intn(3) {
			out = append(out, api.Item{
				Mask:     []uint32{0, 0, api.Vowel, api.Consonant, api.Boundary, api.Boundary}[r.Intn(6)],
				Letters:  []string{"", "", "", "=", "ta", "de="}[r.Intn(6)],
				Negated:  r.Intn(4) == 0,
				Repeated: r.Intn(4) == 0,
			})
		}
		return out
	}
	var out []api.Rule
	for range r.Intn(4) {
		out = append(out, api.Rule{
			From: []rune{0, 'a', 'e', 't', 'd', 't'}[r.Intn(6)],
			To:   []string{"", "", "a", "e", "d", "tt"}[r.Intn(6)],
			Left: items(), Right: items(),
			Initial: r.Intn(4) == 0, Final: r.Intn(4) == 0,
		})
	}
	return out
}

// randomWord returns a word over letters of at most n letters.
func randomWord(r *rand.Rand, n int) string {
	out := ""
	for range r.Intn(n + 1) {
		out += string(letters()[r.Intn(4)].Rune)
	}
	return out
}

// randomWords returns at most n words, some of which may be equal.
func randomWords(r *rand.Rand, n, length int) []string {
	var out []string
	for range r.Intn(n + 1) {
		out = append(out, randomWord(r, length))
	}
	return out
}
