package measure

import (
	"fmt"
	"math/big"
	"math/rand"

	"pentaglot/api"
)

// example are the units of the chapter's examples.
func example() []api.Unit {
	return []api.Unit{{Name: "minute", Size: 1}, {Name: "hour", Size: 60}, {Name: "day", Size: 1440}}
}

// quarters are the units of the chapter's second example.
func quarters() []api.Unit {
	return []api.Unit{{Name: "minute", Size: 1}, {Name: "quarter", Size: 15}}
}

// sized returns units with these sizes, named a, b and so on.
func sized(sizes ...int) []api.Unit {
	var out []api.Unit
	for i, size := range sizes {
		out = append(out, api.Unit{Name: string(rune('a' + i)), Size: size})
	}
	return out
}

// areUnitsBy is the definition of valid units.
func areUnitsBy(units []api.Unit) bool {
	for i, u := range units {
		for k, v := range units {
			if i != k && u.Name == v.Name {
				return false
			}
		}
		if u.Name == "" || i == 0 && u.Size != 1 {
			return false
		}
		if i > 0 && (u.Size <= units[i-1].Size || u.Size%units[i-1].Size != 0 || u.Size > 1000000) {
			return false
		}
	}
	return len(units) > 0 && len(units) < 9
}

// arePartsBy is the definition of valid parts.
func arePartsBy(units []api.Unit, parts []int) bool {
	for _, k := range parts {
		if k < 0 {
			return false
		}
	}
	return len(parts) == len(units)
}

// amountBy is the definition of the amount of parts, without a limit.
func amountBy(units []api.Unit, parts []int) *big.Int {
	sum := new(big.Int)
	for i, u := range units {
		product := new(big.Int).Mul(big.NewInt(int64(parts[i])), big.NewInt(int64(u.Size)))
		sum.Add(sum, product)
	}
	return sum
}

// joinBy is the definition of Join.
func joinBy(units []api.Unit, parts []int) (int, api.Errno) {
	if !areUnitsBy(units) || !arePartsBy(units, parts) {
		return 0, api.ErrArgument
	}
	n := amountBy(units, parts)
	if n.Cmp(big.NewInt(1<<40)) > 0 {
		return 0, api.ErrTooLarge
	}
	return int(n.Int64()), api.OK
}

// normalBy is the definition of normal parts.
func normalBy(units []api.Unit, parts []int) bool {
	if _, e := joinBy(units, parts); e != api.OK {
		return false
	}
	for i := range len(units) - 1 {
		if parts[i] >= units[i+1].Size/units[i].Size {
			return false
		}
	}
	return true
}

// splitBy carries from each unit to the next one, from the base unit on.
func splitBy(units []api.Unit, n int) []int {
	out := make([]int, len(units))
	out[0] = n
	for i := range len(units) - 1 {
		carry := units[i+1].Size / units[i].Size
		out[i], out[i+1] = out[i]%carry, out[i]/carry
	}
	return out
}

// result is what a function returned, as a text.
func result[T any](value T, e api.Errno) string { return fmt.Sprint(value, " ", int(e)) }

// randomUnits returns valid units.
func randomUnits(source *rand.Rand) []api.Unit {
	sizes := []int{1}
	for range source.Intn(8) {
		last := sizes[len(sizes)-1]
		if next := last * (2 + source.Intn(1+source.Intn(1000))); next <= 1000000 {
			sizes = append(sizes, next)
		}
	}
	return sized(sizes...)
}

// randomAmount returns an amount; small ones, great ones and the greatest ones are as frequent.
func randomAmount(source *rand.Rand) int {
	n := source.Intn(1<<source.Intn(41) + 1)
	if source.Intn(2) > 0 {
		return 1<<40 - n
	}
	return n
}

// randomParts returns parts of units, which may be too large, and sometimes are wrong.
func randomParts(source *rand.Rand, units []api.Unit) []int {
	out := make([]int, len(units))
	for i := range out {
		out[i] = source.Intn(1 << source.Intn(40))
		if source.Intn(40) == 0 {
			out[i] = -out[i]
		}
		if source.Intn(40) == 0 {
			out[i] = 1<<63 - 1 - source.Intn(3)
		}
	}
	switch source.Intn(40) {
	case 0:
		return append(out, 0)
	case 1:
		return out[1:]
	}
	return out
}
