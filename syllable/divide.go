package syllable

import (
	"slices"

	"pentaglot/alphabet"
	"pentaglot/api"
)

// divide returns the syllables of word, none of which is empty.
func divide(a []api.Letter, p api.Phonotactics, word string) ([][]rune, api.Errno) {
	if !alphabet.Valid(a) || !Valid(p) || !alphabet.IsWord(a, word) {
		return nil, api.ErrArgument
	}
	isOnset := onsetTest(a, p)
	runes := []rune(word)
	nuclei := Nuclei(a, word)
	var out [][]rune
	begin := 0
	for i := 1; i < len(nuclei); i++ {
		end := nuclei[i-1] + 1
		for !isOnset(runes[end:nuclei[i]]) {
			end++
		}
		out = append(out, runes[begin:end])
		begin = end
	}
	// The last syllable; without vowels it is the whole word.
	if begin < len(runes) {
		out = append(out, runes[begin:])
	}
	return out, api.OK
}

// onsetTest returns the function that reports whether a cluster is an onset.
func onsetTest(a []api.Letter, p api.Phonotactics) func(cluster []rune) bool {
	classes := classesOf(a)
	has := func(mask uint32, r rune) bool {
		c, isLetter := classes[r]
		return isLetter && c&mask == mask
	}
	return func(cluster []rune) bool {
		return len(cluster) == 0 || slices.ContainsFunc(p.Onsets, func(masks []uint32) bool {
			return slices.EqualFunc(masks, cluster, has)
		})
	}
}

// classesOf returns the classes of the letters by their runes: of letters with the same rune, those of the first one.
func classesOf(a []api.Letter) map[rune]uint32 {
	out := make(map[rune]uint32, len(a))
	for _, l := range slices.Backward(a) {
		out[l.Rune] = l.Classes
	}
	return out
}

// isVowel reports whether r is a vowel; a rune that is no letter has no classes.
func isVowel(classes map[rune]uint32, r rune) bool {
	return classes[r]&api.Vowel != 0
}
