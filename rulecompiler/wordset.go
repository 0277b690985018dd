package rulecompiler

import "pentaglot/api"

// Sets of words have numbers. The number of every other set is that of its branch.
const (
	noWords   = 0
	emptyWord = 1 // the set that contains the empty word only
)

// branch is a set of words: those that begin with first, and go on with a word of rest, and those of others, whose words are empty or begin with a greater rune.
type branch struct {
	first  rune
	rest   int
	others int
}

// wordsets holds finite sets of words that share their parts. Equal sets have the same number, so that a set can be large without being held word by word, and sets are compared by their numbers.
type wordsets struct {
	branches []branch
	numbers  map[branch]int
	runes    map[rune]bool // those that words begin with
}

// newWordsets returns the sets without a branch.
func newWordsets() *wordsets {
	return &wordsets{make([]branch, emptyWord+1), make(map[branch]int), make(map[rune]bool)}
}

// add returns the number of the set b.
func (w *wordsets) add(b branch) int {
	if b.rest == noWords {
		return b.others
	}
	n, ok := w.numbers[b]
	if !ok {
		n = len(w.branches)
		w.branches = append(w.branches, b)
		w.numbers[b], w.runes[b.first] = n, true
	}
	return n
}

// single returns the set of one word.
func (w *wordsets) single(word []rune) int {
	set := emptyWord
	for i := range word {
		set = w.add(branch{first: word[len(word)-1-i], rest: set})
	}
	return set
}

// isEnd reports whether set contains the empty word.
func (w *wordsets) isEnd(set int) bool {
	for set > emptyWord {
		set = w.branches[set].others
	}
	return set == emptyWord
}

// after returns with what the words of set go on that begin with these runes.
func (w *wordsets) after(set int, runes ...rune) int {
	for _, r := range runes {
		for set > emptyWord && w.branches[set].first < r {
			set = w.branches[set].others
		}
		if set <= emptyWord || w.branches[set].first != r {
			return noWords
		}
		set = w.branches[set].rest
	}
	return set
}

// list returns the words of set in shortlex order; ErrTooLarge if there are more than limit.
func (w *wordsets) list(set, limit int) ([]string, api.Errno) {
	type beginning struct {
		text string
		rest int
	}
	level := []beginning{{"", set}}
	var out []string
	for len(level) > 0 && set != noWords {
		var next []beginning
		for _, b := range level {
			if w.isEnd(b.rest) {
				out = append(out, b.text)
			}
			for s := b.rest; s > emptyWord; s = w.branches[s].others {
				next = append(next, beginning{b.text + string(w.branches[s].first), w.branches[s].rest})
			}
			// Each beginning is that of at least one word, and beginnings of one length are those of different words.
			if len(out)+len(next) > limit {
				return nil, api.ErrTooLarge
			}
		}
		level = next
	}
	return out, api.OK
}
