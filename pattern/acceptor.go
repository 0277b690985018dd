package pattern

import (
	"slices"

	"pentaglot/api"
	"pentaglot/matching"
)

// Acceptor returns the deterministic acceptor of the strings that p matches, its states numbered in the order in which a breadth-first search by the letters finds them.
func Acceptor(a []api.Letter, p []api.Item) (api.Acceptor, api.Errno) {
	if !Valid(a, p) {
		return api.Acceptor{}, api.ErrArgument
	}
	m := matching.NewMachine(a, p)
	sets, rows := matching.Explore(m.Start(), len(a), m.Next)
	return matching.Build(sets, rows, m.Final), api.OK
}

// Accepts runs an acceptor.
func Accepts(a []api.Letter, x api.Acceptor, s string) bool {
	at, ok := matching.Places(a)
	if !ok || !isAcceptor(x) || len(x.Next[0]) != len(a) {
		return false
	}
	word, ok := matching.Read(at, s)
	if !ok {
		return false
	}
	now := x.Start
	for _, letter := range word {
		now = x.Next[now][letter]
	}
	return x.Final[now]
}

// Minimal returns the acceptor of the same strings with the fewest states, numbered like the result of Acceptor.
func Minimal(x api.Acceptor) api.Acceptor {
	if !isAcceptor(x) {
		return api.Acceptor{}
	}
	class, count := classes(x)
	member := make([]int, count)
	for s, c := range class {
		member[c] = s
	}
	next := func(c, letter int) int { return class[x.Next[member[c]][letter]] }
	found, rows := matching.Explore(class[x.Start], len(x.Next[0]), next)
	return matching.Build(found, rows, func(c int) bool { return x.Final[member[c]] })
}

// Difference returns the first string, in the order of length and then of the letters, that exactly one of the patterns matches.
func Difference(a []api.Letter, p, q []api.Item) (string, bool) {
	if !Valid(a, p) || !Valid(a, q) {
		return "", false
	}
	type pair struct {
		p matching.Set
		q matching.Set
	}
	mp, mq := matching.NewMachine(a, p), matching.NewMachine(a, q)
	next := func(s pair, letter int) pair { return pair{mp.Next(s.p, letter), mq.Next(s.q, letter)} }
	found, rows := matching.Explore(pair{mp.Start(), mq.Start()}, len(a), next)
	// The states are found in the order of the first strings that lead to them.
	i := slices.IndexFunc(found, func(s pair) bool { return mp.Final(s.p) != mq.Final(s.q) })
	if i < 0 {
		return "", false
	}
	return first(a, rows, i), true
}

// isAcceptor reports whether x is valid.
func isAcceptor(x api.Acceptor) bool {
	n := len(x.Next)
	if n < 1 || n > api.MaxStates || len(x.Final) != n || len(x.Next[0]) > matching.MaxLetters {
		return false
	}
	isState := func(s int) bool { return s >= 0 && s < n }
	for _, row := range x.Next {
		if len(row) != len(x.Next[0]) || !all(row, isState) {
			return false
		}
	}
	return isState(x.Start)
}

// all reports whether test holds for each number of list.
func all(list []int, test func(int) bool) bool {
	return !slices.ContainsFunc(list, func(n int) bool { return !test(n) })
}

// first returns the first string that leads from state 0 to the state with the number end, where matching.Explore found the rows.
func first(a []api.Letter, rows [][]int, end int) string {
	var out []rune
	for end != 0 {
		// The first row with a state is that of the state from which it was found.
		from := slices.IndexFunc(rows, func(row []int) bool { return slices.Contains(row, end) })
		out = append(out, a[slices.Index(rows[from], end)].Rune)
		end = from
	}
	slices.Reverse(out)
	return string(out)
}

// classes returns the class of each state, and the number of classes: from the states of one class, the same strings are accepted.
func classes(x api.Acceptor) ([]int, int) {
	class, count := split(make([]int, len(x.Final)), func(s int) int {
		if x.Final[s] {
			return 1
		}
		return 0
	})
	for before := 0; before < count; {
		before = count
		for letter := range len(x.Next[0]) {
			old := class
			class, count = split(old, func(s int) int { return old[x.Next[s][letter]] })
		}
	}
	return class, count
}

// split returns the classes of states that have the same class and the same mark, and their number.
func split(class []int, mark func(s int) int) ([]int, int) {
	type key struct {
		class int
		mark  int
	}
	number := make(map[key]int)
	out := make([]int, len(class))
	for s, c := range class {
		k := key{c, mark(s)}
		if _, ok := number[k]; !ok {
			number[k] = len(number)
		}
		out[s] = number[k]
	}
	return out, len(number)
}
