package clitic

import (
	"iter"
	"slices"
	"strings"

	"pentaglot/api"
)

// maxClitics bounds the clitics of a segment that Split finds.
const maxClitics = 2

// part is a host or a clitic.
type part struct {
	word   string
	stable string // its stable letters
}

// candidate is a segment with its attached form.
type candidate struct {
	segment api.Segment
	form    string
	rest    string // the stable letters of the written word that are still missing
}

// divider extends candidates by clitics.
type divider struct {
	extended []api.Letter
	sandhi   []api.Rule
	clitics  []part
}

// candidates iterates over the segments of a host and 0 to 2 clitics with the stable letters of word, in the order of Split. Those with other stable letters have other attached forms, which need not be built to know that.
func candidates(a []api.Letter, sandhi []api.Rule, hosts, clitics []string, word string) iter.Seq[candidate] {
	stable := stableLetters(sandhi)
	whole := stable(word)
	d := divider{Extended(a), sandhi, parts(clitics, stable)}
	return func(yield func(candidate) bool) {
		for _, h := range parts(hosts, stable) {
			rest, ok := strings.CutPrefix(whole, h.stable)
			if !ok {
				continue
			}
			start := candidate{api.Segment{Host: h.word}, h.word, rest}
			for n := range maxClitics + 1 {
				for c := range d.extensions(start, n) {
					if !yield(c) {
						return
					}
				}
			}
		}
	}
}

// extensions iterates over the candidates that begin with c, have n more clitics, and have all stable letters of the word.
func (d divider) extensions(c candidate, n int) iter.Seq[candidate] {
	return func(yield func(candidate) bool) {
		if n == 0 {
			if c.rest == "" {
				yield(c)
			}
			return
		}
		for _, x := range d.clitics {
			rest, ok := strings.CutPrefix(c.rest, x.stable)
			if !ok || n == 1 && rest != "" {
				continue
			}
			form, ok := attached(d.extended, d.sandhi, c.form, x.word)
			if !ok {
				continue
			}
			s := api.Segment{Host: c.segment.Host, Clitics: append(slices.Clone(c.segment.Clitics), x.word)}
			for longer := range d.extensions(candidate{s, form, rest}, n-1) {
				if !yield(longer) {
					return
				}
			}
		}
	}
}

// parts returns the words, each once, with their stable letters.
func parts(words []string, stable func(string) string) []part {
	seen := map[string]bool{}
	var out []part
	for _, w := range words {
		if !seen[w] {
			seen[w] = true
			out = append(out, part{w, stable(w)})
		}
	}
	return out
}

// stableLetters returns the function that leaves of a word only the letters that no rule replaces or writes: the cascade keeps each of them, in their order, and adds none.
func stableLetters(sandhi []api.Rule) func(word string) string {
	changing := map[rune]bool{}
	for _, r := range sandhi {
		changing[r.From] = true
		for _, c := range r.To {
			changing[c] = true
		}
	}
	return func(word string) string {
		return strings.Map(func(r rune) rune {
			if changing[r] {
				return -1
			}
			return r
		}, word)
	}
}
