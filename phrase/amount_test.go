package phrase

import (
	"fmt"
	"math"
	"math/rand"
	"slices"
	"strings"
	"testing"

	"pentaglot/api"
)

// someUnits returns the units of the chapter's examples.
func someUnits() []api.Unit {
	return []api.Unit{{Name: "minute", Size: 1}, {Name: "hour", Size: 60}, {Name: "day", Size: 1440}}
}

// sized returns units of these sizes with the names ua, ub and so on.
func sized(sizes ...int) []api.Unit {
	var out []api.Unit
	for i, size := range sizes {
		out = append(out, api.Unit{Name: tokens("u", 9)[i], Size: size})
	}
	return out
}

// checkNoAmounts checks that amounts in units have no phrases.
func checkNoAmounts(t *testing.T, name string, n api.NumeralSystem, units []api.Unit) {
	for _, value := range []int{math.MinInt, -1, 0, 1, 60, 9999, 10000, 1 << 40, 1<<40 + 1, math.MaxInt} {
		if list, e := Amount(n, units, value); len(list) != 0 || e != api.ErrArgument {
			t.Errorf("%s: %d is %q, %d", name, value, list, e)
		}
	}
	for _, text := range []string{"", "one u", "zero minute", "one hour", "one day one hour five minute"} {
		if list, e := ParseAmount(n, units, strings.Fields(text)); len(list) != 0 || e != api.ErrArgument {
			t.Errorf("%s: %q is %v, %d", name, text, list, e)
		}
	}
}

func TestUnits(t *testing.T) { // P20.4: section Errors
	n, _ := example()
	for name, units := range map[string][]api.Unit{
		"no units":              nil,
		"9 units":               sized(1, 2, 4, 8, 16, 32, 64, 128, 256),
		"a first Size of 2":     sized(2, 4),
		"a first Size of 0":     sized(0),
		"no multiple":           sized(1, 60, 90),
		"equal Sizes":           sized(1, 60, 60),
		"a Size too great":      sized(1, 1000001),
		"a negative Size":       sized(1, -60),
		"equal Names":           {{Name: "a", Size: 1}, {Name: "a", Size: 2}},
		"equal Names at ends":   {{Name: "a", Size: 1}, {Name: "b", Size: 2}, {Name: "a", Size: 4}},
		"two equal empty Names": {{Name: "", Size: 1}, {Name: "", Size: 2}},
	} {
		checkNoAmounts(t, name, n, units)
	}
	for _, word := range wrongTokens() {
		for i := range 3 {
			units := someUnits()
			units[i].Name = word
			checkNoAmounts(t, fmt.Sprintf("the Name %q", word), n, units)
		}
	}
}

func TestAmount(t *testing.T) { // P20.4
	n, _ := example()
	for _, c := range []struct {
		units []api.Unit
		want  map[int]string
	}{
		{someUnits(), map[int]string{0: "zero minute", 1: "one minute", 59: "five ten nine minute", 60: "one hour", 61: "one hour one minute", 1439: "two ten three hour five ten nine minute", 1440: "one day", 1441: "one day one minute", 1500: "one day one hour", 1505: "one day one hour five minute", 9999 * 1440: "nine thousand nine hundred nine ten nine day", 9999*1440 + 1439: "nine thousand nine hundred nine ten nine day two ten three hour five ten nine minute"}},
		{sized(1), map[int]string{0: "zero ua", 1: "one ua", 9999: "nine thousand nine hundred nine ten nine ua"}},
		{sized(1, 10000), map[int]string{9999: "nine thousand nine hundred nine ten nine ua", 10000: "one ub", 10001: "one ub one ua", 99999999: "nine thousand nine hundred nine ten nine ub nine thousand nine hundred nine ten nine ua"}},
		{sized(1, 1000000), map[int]string{9999: "nine thousand nine hundred nine ten nine ua", 1000000: "one ub", 9999000000: "nine thousand nine hundred nine ten nine ub"}},
		{sized(1, 2, 4, 8, 16, 32, 64, 128), map[int]string{0: "zero ua", 255: "one uh one ug one uf one ue one ud one uc one ub one ua", 256: "two uh", 165: "one uh one uf one uc one ua"}},
		{[]api.Unit{{Name: "one", Size: 1}, {Name: "zero", Size: 2}}, map[int]string{0: "zero one", 1: "one one", 2: "one zero", 3: "one zero one one"}},
	} {
		for value, want := range c.want {
			got, e := Amount(n, c.units, value)
			checkSaid(t, value, want, got, e)
			values, e := ParseAmount(n, c.units, got)
			checkFound(t, got, []int{value}, values, e)
		}
	}
}

func TestAmountErrors(t *testing.T) { // P20.4: section Errors
	n, _ := example()
	for _, c := range []struct {
		units  []api.Unit
		values map[int]api.Errno
	}{
		{someUnits(), map[int]api.Errno{math.MinInt: api.ErrArgument, -1: api.ErrArgument, 0: api.OK, 10000*1440 - 1: api.OK, 10000 * 1440: api.ErrTooLarge, 10000*1440 + 1: api.ErrTooLarge, 1 << 40: api.ErrTooLarge, 1<<40 + 1: api.ErrTooLarge, math.MaxInt: api.ErrTooLarge}},
		{sized(1), map[int]api.Errno{-1: api.ErrArgument, 9999: api.OK, 10000: api.ErrTooLarge, 10001: api.ErrTooLarge, 1 << 40: api.ErrTooLarge, 1<<40 + 1: api.ErrTooLarge}},
		{sized(1, 1000000), map[int]api.Errno{-1000000: api.ErrArgument, 9999: api.OK, 10000: api.ErrTooLarge, 999999: api.ErrTooLarge, 1000000: api.OK, 1009999: api.OK, 1010000: api.ErrTooLarge, 9999009999: api.OK, 9999010000: api.ErrTooLarge, 10000000000: api.ErrTooLarge}},
		{sized(1, 20000, 1000000), map[int]api.Errno{9999: api.OK, 10000: api.ErrTooLarge, 19999: api.ErrTooLarge, 20000: api.OK, 29999: api.OK, 30000: api.ErrTooLarge}},
	} {
		for value, want := range c.values {
			if list, e := Amount(n, c.units, value); e != want || (e == api.OK) != (len(list) > 0) {
				t.Errorf("%d: %q, %d, not %d", value, list, e, want)
			}
		}
	}
}

func TestNoAmount(t *testing.T) { // P20.4
	n, _ := example()
	for _, text := range []string{
		"", "zero", "one", "minute", "zero hour", "zero day", "zero minute zero minute", "one hour zero minute", "zero hour one minute", "one day zero hour one minute", "six ten minute", "two ten four hour", "one hour one hour", "one minute one minute", "five minute one hour", "one minute one day", "one hour one day", "one one hour", "one hour hour", "hour one", "one hour one", "one hour minute", "one week", "x one hour", "one hour x", "one ten hour one", "ten minute", "one hour one minute zero minute", "zero day one hour", "one Hour", "one hour ", "one thousand minute",
	} {
		values, e := ParseAmount(n, someUnits(), strings.Split(text, " "))
		checkFound(t, strings.Split(text, " "), nil, values, e)
	}
	if values, e := ParseAmount(n, someUnits(), nil); len(values) != 0 || e != api.OK {
		t.Error(values, e)
	}
}

func TestAmountDefinition(t *testing.T) { // P20.4, P20.5
	source := rand.New(rand.NewSource(4))
	for _, n := range systems() {
		for _, units := range [][]api.Unit{someUnits(), sized(1), sized(1, 20), sized(1, 7, 91, 910), sized(1, 1000000), sized(1, 10, 100, 1000, 10000, 100000, 1000000)} {
			for i := range 600 {
				value := i
				if i >= 100 {
					value = source.Intn(10000) * units[source.Intn(len(units))].Size
					value += source.Intn(10000) * units[0].Size
				}
				got, e := Amount(n, units, value)
				if e == api.ErrTooLarge {
					continue
				}
				checkSaid(t, value, strings.Join(amountBy(n, units, value), " "), got, e)
				values, e := ParseAmount(n, units, got)
				checkFound(t, got, []int{value}, values, e)
			}
		}
	}
}

// TestSharedAmounts compares what is read in random systems with the definition. Of the first two systems, 255, 256 and 257 amounts share a phrase.
func TestSharedAmounts(t *testing.T) { // P20.4, P20.5
	t.Parallel()
	exact := map[int]int{}
	for _, seed := range []int64{757, 5465, 1, 2, 3, 4, 5, 6, 7, 8, 9, 10} {
		source := rand.New(rand.NewSource(seed))
		kinds := 2 + source.Intn(6)
		n := randomNumerals(source, kinds)
		size := 2 + source.Intn(10)
		units := []api.Unit{{Name: "u", Size: 1}, {Name: "v", Size: size}}
		if seed%2 == 0 { // units whose names are also words of numbers
			units = []api.Unit{{Name: "a", Size: 1}, {Name: "b", Size: size}, {Name: "c", Size: size * 3}}
		}
		amounts := newIndex(10000*units[len(units)-1].Size, func(value int) []string { return amountBy(n, units, value) })
		for count, value := range amounts.groups() {
			exact[count]++
			phrase := amountBy(n, units, value)
			values, e := ParseAmount(n, units, phrase)
			checkFound(t, phrase, amounts.find(phrase), values, e)
		}
		for range 200 {
			for _, phrase := range changes(amountBy(n, units, source.Intn(len(amounts))), source)[:12] {
				values, e := ParseAmount(n, units, phrase)
				checkFound(t, phrase, amounts.find(phrase), values, e)
			}
		}
	}
	if exact[256] == 0 || exact[257] == 0 || exact[1] == 0 {
		t.Error("256 and 257 amounts do not share a phrase")
	}
}

// TestManyWays reads lists for which very many amounts are near, while none or far too many have the phrase.
func TestManyWays(t *testing.T) { // P20.4
	n := api.NumeralSystem{Base: 10, Digits: slices.Repeat([]string{"a"}, 10), Powers: []string{"a", "a", "a"}}
	units := sized(1, 10, 100, 1000, 10000, 100000, 1000000)
	full := strings.Fields("a a a a a a ug a uf a ue a ud a uc a ub a ua")
	if values, e := ParseAmount(n, units, full); len(values) != 0 || e != api.ErrTooLarge {
		t.Error(values, e)
	}
	for _, list := range [][]string{append(full, "a"), append(full, "ua"), full[1:len(full):len(full)][:15], append(slices.Repeat([]string{"a"}, 10), full...)} {
		if values, e := ParseAmount(n, units, list); len(values) != 0 || e != api.OK {
			t.Errorf("%q: %v, %d", list, values, e)
		}
	}
	if values, e := ParseAmount(n, units, strings.Fields("a ua")); !slices.Equal(values, []int{0, 1, 2, 3, 4, 5, 6, 7, 8, 9}) || e != api.OK {
		t.Error(values, e)
	}
}
