package numeral

import (
	"slices"

	"pentaglot/api"
)

// reader finds the numbers with given words in a valid numeral system.
type reader struct {
	api.NumeralSystem
	words func(n int) []string
}

// newReader returns the reader of a valid numeral system.
func newReader(s api.NumeralSystem) reader { return reader{s, speller(s)} }

// numbers returns the numbers with the words tokens that need no more than the first few powers, in ascending order. It goes the way of the definition backwards, without the conditions that decide between the forms of a number: they hold if the words are the same in the end.
func (r reader) numbers(tokens []string, powers int) []int {
	var out []int
	keep := func(n int) {
		if n >= 0 && n <= api.MaxNumber && slices.Equal(r.words(n), tokens) {
			out = append(out, n)
		}
	}
	if len(tokens) == 1 {
		r.eachDigit(tokens[0], keep)
	}
	power := 1
	for index := range powers {
		power *= r.Base
		r.eachSubtraction(tokens, index, power, keep)
		r.eachHead(tokens, index, power, keep)
	}
	// A number is found twice if its words can be read with a head of one token and with one of two.
	slices.Sort(out)
	return slices.Compact(out)
}

// eachDigit passes on each number below Base with this word.
func (r reader) eachDigit(word string, keep func(n int)) {
	for n, digit := range r.Digits {
		if digit == word {
			keep(n)
		}
	}
}

// eachSubtraction passes on what the tokens stand for as a digit less than a multiple of power.
func (r reader) eachSubtraction(tokens []string, index, power int, keep func(n int)) {
	if len(tokens) != 4 || tokens[1] != r.Less || tokens[3] != r.Powers[index] {
		return
	}
	r.eachDigit(tokens[2], func(quotient int) {
		r.eachDigit(tokens[0], func(missing int) { keep(quotient*power - missing) })
	})
}

// eachHead passes on what the tokens stand for as a head with power and the words of the remainder.
func (r reader) eachHead(tokens []string, index, power int, keep func(n int)) {
	for size := 1; size <= min(2, len(tokens)); size++ {
		head, rest := r.divide(tokens, size)
		if head[size-1] != r.Powers[index] {
			continue
		}
		remainders := r.remainders(rest, index)
		withQuotient := func(quotient int) {
			for _, n := range remainders {
				keep(quotient*power + n)
			}
		}
		if size == 1 {
			withQuotient(1)
		} else {
			r.eachDigit(head[0], withQuotient)
		}
	}
}

// divide returns the head of the given size and the other tokens.
func (r reader) divide(tokens []string, size int) (head, rest []string) {
	if r.SmallFirst {
		begin := len(tokens) - size
		return tokens[begin:], tokens[:begin]
	}
	return tokens[:size], tokens[size:]
}

// remainders returns the remainders that the tokens beside a head stand for: the joiner, if there is one, and words with the first few powers.
func (r reader) remainders(tokens []string, powers int) []int {
	if len(tokens) == 0 {
		return []int{0}
	}
	if r.Joiner != "" {
		joiner, rest := r.divide(tokens, 1)
		if joiner[0] != r.Joiner {
			return nil
		}
		tokens = rest
	}
	return r.numbers(tokens, powers)
}
