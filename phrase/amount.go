package phrase

import (
	"slices"

	"pentaglot/api"
	"pentaglot/measure"
	"pentaglot/numeral"
	"pentaglot/token"
)

// areSayable reports whether amounts in these units have phrases.
func areSayable(n api.NumeralSystem, units []api.Unit) bool {
	isNameless := func(u api.Unit) bool { return !token.Is(u.Name) }
	return numeral.Valid(n) && measure.Check(units) && !slices.ContainsFunc(units, isNameless)
}

// sayAmount returns the phrase of the amount with these normal parts up to MaxNumber.
func sayAmount(n api.NumeralSystem, units []api.Unit, parts []int) []string {
	var out []string
	say := func(part int, u api.Unit) {
		words, _ := numeral.Words(n, part)
		out = append(append(out, words...), u.Name)
	}
	for i, u := range slices.Backward(units) {
		if parts[i] > 0 {
			say(parts[i], u)
		}
	}
	if len(out) == 0 {
		say(0, units[0])
	}
	return out
}

// amounts returns the amounts whose phrase is tokens; of more than MaxOutputs of them only some.
func amounts(n api.NumeralSystem, units []api.Unit, tokens []string) map[int]bool {
	found := map[int]bool{}
	if slices.Equal(tokens, sayAmount(n, units, make([]int, len(units)))) {
		found[0] = true
	}
	for _, amount := range positiveAmounts(n, units, tokens) {
		found[amount] = true
	}
	return found
}

// positiveAmounts returns the amounts above 0 whose phrase is tokens, each once; of more than MaxOutputs of them only some.
func positiveAmounts(n api.NumeralSystem, units []api.Unit, tokens []string) []int {
	if len(tokens) == 0 {
		return nil
	}
	known := map[[2]int][]int{} // by the numbers of units and tokens that are left
	var read func(left int, rest []string) []int
	// read returns the amounts in the first left units that rest stands for; no tokens stand for nothing.
	read = func(left int, rest []string) []int {
		if len(rest) == 0 {
			return []int{0}
		}
		if left == 0 {
			return nil
		}
		place := [2]int{left, len(rest)}
		if found, ok := known[place]; ok {
			return found
		}
		unit := units[left-1]
		found := slices.Clone(read(left-1, rest))
		for part, size := range partsOf(n, units, left-1, rest) {
			for _, amount := range read(left-1, rest[size:]) {
				found = append(found, part*unit.Size+amount)
			}
			// All that reaches here has too many amounts, however many there are.
			if len(found) > api.MaxOutputs {
				break
			}
		}
		known[place] = found
		return found
	}
	return read(len(units), tokens)
}

// partsOf returns the normal parts above 0 of the unit with this index with whose tokens rest begins, each with the number of these tokens.
func partsOf(n api.NumeralSystem, units []api.Unit, index int, rest []string) map[int]int {
	found := map[int]int{}
	for size := 1; size <= longestWords && size < len(rest); size++ {
		if rest[size] != units[index].Name {
			continue
		}
		for _, part := range numeral.Parse(n, rest[:size]) {
			isNormal := index+1 == len(units) || part < units[index+1].Size/units[index].Size
			if part > 0 && isNormal {
				found[part] = size + 1
			}
		}
	}
	return found
}
