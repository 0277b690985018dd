package syllable

import (
	"math/rand"
	"slices"
	"strings"

	"pentaglot/alphabet"
	"pentaglot/api"
)

// letters are those of the chapter's examples.
func letters() []api.Letter {
	return []api.Letter{{Rune: 'a', Classes: api.Vowel}, {Rune: 'i', Classes: api.Vowel}, {Rune: 't', Classes: api.Consonant | api.Stop}, {Rune: 'r', Classes: api.Consonant | api.Liquid}, {Rune: 'n', Classes: api.Consonant | api.Nasal}}
}

// example are the phonotactics of the chapter's examples.
func example() api.Phonotactics {
	return onsets(2, 2, []uint32{api.Consonant}, []uint32{api.Stop, api.Liquid})
}

// onsets returns phonotactics.
func onsets(left, right int, lists ...[]uint32) api.Phonotactics {
	return api.Phonotactics{Onsets: lists, MinLeft: left, MinRight: right}
}

// long are letters of several bytes, with - and U+FFFD among them.
func long() []api.Letter {
	return []api.Letter{{Rune: 'ü', Classes: api.Vowel | api.Front}, {Rune: 'א', Classes: api.Vowel}, {Rune: '𐐀', Classes: api.Vowel}, {Rune: 'š', Classes: api.Consonant}, {Rune: '-', Classes: api.Consonant}, {Rune: 0xFFFD, Classes: api.Vowel}}
}

// many returns n letters without classes.
func many(n int) []api.Letter {
	var out []api.Letter
	for i := range n {
		out = append(out, api.Letter{Rune: rune(0x100 + i)})
	}
	return out
}

// isOnsetBy is the definition of an onset.
func isOnsetBy(a []api.Letter, p api.Phonotactics, cluster string) bool {
	if cluster == "" {
		return true
	}
	runes := []rune(cluster)
	for _, masks := range p.Onsets {
		fits := len(masks) == len(runes)
		for i := 0; fits && i < len(masks); i++ {
			fits = alphabet.Index(a, runes[i]) >= 0 && alphabet.Classes(a, runes[i])&masks[i] == masks[i]
		}
		if fits {
			return true
		}
	}
	return false
}

// isVowelBy is the definition of a vowel.
func isVowelBy(a []api.Letter, r rune) bool {
	return alphabet.Index(a, r) >= 0 && alphabet.Classes(a, r)&api.Vowel == api.Vowel
}

// splitBy is the definition of the syllables: it reads the word from its end, and gives each rune to the syllable of the next vowel or to that of the previous one.
func splitBy(a []api.Letter, p api.Phonotactics, word string) []string {
	var out []string
	runes := []rune(word)
	for end := len(runes); end > 0; {
		nucleus := end - 1
		for nucleus >= 0 && !isVowelBy(a, runes[nucleus]) {
			nucleus--
		}
		earlier := nucleus - 1
		for earlier >= 0 && !isVowelBy(a, runes[earlier]) {
			earlier--
		}
		begin := 0
		if earlier >= 0 {
			// Of all suffixes that are onsets the last one to be found is the longest.
			for n := range nucleus - earlier {
				if isOnsetBy(a, p, string(runes[nucleus-n:nucleus])) {
					begin = nucleus - n
				}
			}
		}
		out = append(out, string(runes[begin:end]))
		end = begin
	}
	slices.Reverse(out)
	return out
}

// pointsBy is the definition of the hyphenation points.
func pointsBy(a []api.Letter, p api.Phonotactics, word string) []int {
	var out []int
	list := splitBy(a, p, word)
	for i := 1; i < len(list); i++ {
		before, after := []rune(strings.Join(list[:i], "")), []rune(strings.Join(list[i:], ""))
		if len(before) >= p.MinLeft && len(after) >= p.MinRight {
			out = append(out, len(before))
		}
	}
	return out
}

// heavyBy is the definition of heavy syllables.
func heavyBy(a []api.Letter, p api.Phonotactics, word string) []bool {
	var out []bool
	for _, s := range splitBy(a, p, word) {
		runes := []rune(s)
		out = append(out, !isVowelBy(a, runes[len(runes)-1]))
	}
	return out
}

// hyphenateBy is the definition of Hyphenate for valid UTF-8.
func hyphenateBy(word string, points []int) string {
	out := ""
	for i, r := range []rune(word) {
		if i > 0 && slices.Contains(points, i) {
			out += "-"
		}
		out += string(r)
	}
	return out
}

// randomPhonotactics returns valid phonotactics.
func randomPhonotactics(r *rand.Rand) api.Phonotactics {
	p := onsets(1+r.Intn(4), 1+r.Intn(4))
	for range r.Intn(6) {
		masks := []uint32{}
		for range r.Intn(5) {
			masks = append(masks, []uint32{0, api.Consonant, api.Consonant, api.Stop, api.Liquid, api.Nasal, api.Vowel, api.Stop | api.Nasal}[r.Intn(8)])
		}
		p.Onsets = append(p.Onsets, masks)
	}
	return p
}

// randomWord returns a word over a of at most n letters.
func randomWord(r *rand.Rand, a []api.Letter, n int) string {
	out := ""
	for range r.Intn(n + 1) {
		out += string(a[r.Intn(len(a))].Rune)
	}
	return out
}
