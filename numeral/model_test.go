package numeral

import (
	"math/rand"
	"strings"

	"pentaglot/api"
)

// example is the system of the chapter's examples.
func example() api.NumeralSystem {
	return api.NumeralSystem{Base: 10, Digits: strings.Fields("zero one two three four five six seven eight nine"), Powers: strings.Fields("ten hundred thousand"), Joiner: "and"}
}

// twenty is a system with the base 20 and the digits a to t.
func twenty() api.NumeralSystem {
	return api.NumeralSystem{Base: 20, Digits: strings.Split("abcdefghijklmnopqrst", ""), Powers: strings.Fields("score great vast")}
}

// changed returns s after a change.
func changed(s api.NumeralSystem, change func(s *api.NumeralSystem)) api.NumeralSystem {
	change(&s)
	return s
}

// combinations returns the systems of both bases with each combination of OmitOne, SmallFirst, Joiner and Subtract.
func combinations() []api.NumeralSystem {
	var out []api.NumeralSystem
	for _, s := range []api.NumeralSystem{example(), twenty()} {
		for bits := range 8 {
			for _, subtract := range []int{0, 1, 2, s.Base/2 - 1} {
				s.OmitOne, s.SmallFirst, s.Joiner = bits&1 > 0, bits&2 > 0, ""
				if bits&4 > 0 {
					s.Joiner = "and"
				}
				s.Subtract, s.Less = subtract, "from"
				out = append(out, s)
			}
		}
	}
	return out
}

// textBy is the definition of the words of a number, with blanks between them.
func textBy(s api.NumeralSystem, n int) string {
	if n < s.Base {
		return s.Digits[n]
	}
	p, word := s.Base*s.Base*s.Base, s.Powers[2]
	for k := 1; p > n; k-- {
		p, word = p/s.Base, s.Powers[k]
	}
	q := n / p
	r := n - q*p
	if s.Subtract > 0 && p-r <= s.Subtract && q < s.Base-1 {
		return textBy(s, p-r) + " " + s.Less + " " + textBy(s, n-r+p)
	}
	head := textBy(s, q) + " " + word
	if s.OmitOne && q == 1 {
		head = word
	}
	between := " "
	if s.Joiner != "" {
		between = " " + s.Joiner + " "
	}
	if r == 0 {
		return head
	}
	if s.SmallFirst {
		return textBy(s, r) + between + head
	}
	return head + between + textBy(s, r)
}

// numbersBy returns the numbers with words, in ascending order, by their words.
func numbersBy(s api.NumeralSystem) map[string][]int {
	out := map[string][]int{}
	for n := range 10000 {
		text := textBy(s, n)
		out[text] = append(out[text], n)
	}
	return out
}

// text returns the words of n with blanks between them; the error as a text if there is one.
func text(s api.NumeralSystem, n int) string {
	words, e := Words(s, n)
	if e != api.OK {
		return "error"
	}
	return strings.Join(words, " ")
}

// randomSystem returns a system with few different tokens, so that many numbers have the same words.
func randomSystem(source *rand.Rand) api.NumeralSystem {
	kinds := 1 + source.Intn(12)
	token := func() string { return string(rune('a' + source.Intn(kinds))) }
	s := api.NumeralSystem{Base: 10 + 10*source.Intn(2), SmallFirst: source.Intn(2) > 0, OmitOne: source.Intn(2) > 0}
	for range s.Base {
		s.Digits = append(s.Digits, token())
	}
	for range 3 {
		s.Powers = append(s.Powers, token())
	}
	if source.Intn(2) > 0 {
		s.Joiner = token()
	}
	if source.Intn(2) > 0 {
		s.Less, s.Subtract = token(), source.Intn(s.Base/2)
	}
	return s
}
