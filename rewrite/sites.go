package rewrite

import (
	"slices"
	"strings"

	"pentaglot/api"
	"pentaglot/matching"
)

// sites returns the sites of r in word, both of which are valid over the letters.
func (l list) sites(r api.Rule, word string) []int {
	text := l.spelled(word)
	before := holds(r.Left, text, r.Initial)
	// Read from its end, the part behind a site is one that the items match in the opposite order.
	behind := holds(reversed(r.Right), reversed(text), r.Final)
	var out []int
	for i := range before {
		rest := len(text) - i
		if r.From != 0 {
			if rest == 0 || text[i].Rune != r.From {
				continue
			}
			rest--
		}
		if before[i] && behind[rest] {
			out = append(out, i)
		}
	}
	return out
}

// spelled returns the letters of word.
func (l list) spelled(word string) []api.Letter {
	var out []api.Letter
	for _, c := range word {
		out = append(out, l.letters[l.places[c]])
	}
	return out
}

// holds returns, for each number of letters from 0 on, whether the items match the end of the first so many letters of text; if anchored is true: all of these letters.
func holds(items []api.Item, text []api.Letter, anchored bool) []bool {
	now := make([]bool, len(text)+1)
	for i := range now {
		now[i] = i == 0 || !anchored
	}
	for _, x := range items {
		ends := make([]bool, len(now))
	pieces:
		for i, begins := range now {
			if !begins {
				continue
			}
			ends[i] = ends[i] || x.Repeated
			for k, letter := range text[i:] {
				end := i + k + 1
				// Where an earlier piece went on, the further ends are known.
				if ends[end] || !matching.Admits(x, letter) {
					continue pieces
				}
				ends[end] = true
				if !x.Repeated {
					continue pieces
				}
			}
		}
		now = ends
	}
	return now
}

// reversed returns the elements of list in the opposite order.
func reversed[E any](list []E) []E {
	out := slices.Clone(list)
	slices.Reverse(out)
	return out
}

// rewritten returns word with r applied at these sites.
func rewritten(r api.Rule, word string, sites []int) string {
	if len(sites) == 0 {
		return word
	}
	var out strings.Builder
	i := 0
	for _, c := range word {
		isSite := len(sites) > 0 && sites[0] == i
		if isSite {
			out.WriteString(r.To)
			sites = sites[1:]
		}
		if !isSite || r.From == 0 {
			out.WriteRune(c)
		}
		i++
	}
	// What is left is the site behind the last letter.
	if len(sites) > 0 {
		out.WriteString(r.To)
	}
	return out.String()
}
