package numeral

import (
	"pentaglot/api"
)

// speller returns the function that returns the words of a number from 0 to MaxNumber; s is valid.
func speller(s api.NumeralSystem) func(n int) []string {
	var words func(n int) []string
	words = func(n int) []string {
		if n < s.Base {
			return collect(s.Digits[n : n+1])
		}
		index, power := greatestPower(s.Base, n)
		quotient, rest := n/power, n%power
		if s.Subtract > 0 && rest >= power-s.Subtract && quotient+1 < s.Base {
			return collect(words(power-rest), []string{s.Less}, words((quotient+1)*power))
		}
		head := s.Powers[index : index+1]
		if quotient > 1 || !s.OmitOne {
			head = collect(words(quotient), head)
		}
		switch {
		case rest == 0:
			return collect(head)
		case s.SmallFirst:
			return collect(words(rest), []string{s.Joiner}, head)
		default:
			return collect(head, []string{s.Joiner}, words(rest))
		}
	}
	return words
}

// greatestPower returns the greatest power of base that is at most n, and the index of its word; n is from base to MaxNumber.
func greatestPower(base, n int) (index, power int) {
	power = base
	for power*base <= n {
		index, power = index+1, power*base
	}
	return index, power
}

// collect returns the words of all lists, without the empty ones, because Joiner and Less may be empty.
func collect(lists ...[]string) []string {
	var out []string
	for _, list := range lists {
		for _, w := range list {
			if w != "" {
				out = append(out, w)
			}
		}
	}
	return out
}

// abbreviated returns s with a letter of its own for each token, and with an empty Joiner or Less as it is, so that lists of long tokens are compared in little time and memory.
func abbreviated(s api.NumeralSystem) api.NumeralSystem {
	letters := map[string]string{}
	for i, token := range Vocabulary(s) {
		letters[token] = string(rune('a' + i))
	}
	short := func(tokens []string) []string {
		var out []string
		for _, token := range tokens {
			out = append(out, letters[token])
		}
		return out
	}
	s.Digits, s.Powers = short(s.Digits), short(s.Powers)
	s.Joiner, s.Less = letters[s.Joiner], letters[s.Less]
	return s
}
