package pattern

import (
	"slices"

	"pentaglot/api"
)

// Acceptor returns the deterministic acceptor of the strings that p matches, its states numbered in the order in which a breadth-first search by the letters finds them.
func Acceptor(a []api.Letter, p []api.Item) (api.Acceptor, api.Errno) {
	if !Valid(a, p) {
		return api.Acceptor{}, api.ErrArgument
	}
	m := newMachine(a, p)
	sets, rows := explore(m.start(), len(a), m.next)
	return build(sets, rows, m.final), api.OK
}

// Accepts runs an acceptor.
func Accepts(a []api.Letter, x api.Acceptor, s string) bool {
	at, ok := places(a)
	if !ok || !isAcceptor(x) || len(x.Next[0]) != len(a) {
		return false
	}
	word, ok := read(at, s)
	if !ok {
		return false
	}
	now := x.Start
	for _, letter := range word {
		now = x.Next[now][letter]
	}
	return x.Final[now]
}

// Minimal returns the acceptor of the same strings with the fewest states, numbered like the result of Acceptor.
func Minimal(x api.Acceptor) api.Acceptor {
	if !isAcceptor(x) {
		return api.Acceptor{}
	}
	class, count := classes(x)
	member := make([]int, count)
	for s, c := range class {
		member[c] = s
	}
	next := func(c, letter int) int { return class[x.Next[member[c]][letter]] }
	found, rows := explore(class[x.Start], len(x.Next[0]), next)
	return build(found, rows, func(c int) bool { return x.Final[member[c]] })
}

// Difference returns the first string, in the order of length and then of the letters, that exactly one of the patterns matches.
func Difference(a []api.Letter, p, q []api.Item) (string, bool) {
	if !Valid(a, p) || !Valid(a, q) {
		return "", false
	}
	type pair struct {
		p set
		q set
	}
	mp, mq := newMachine(a, p), newMachine(a, q)
	next := func(s pair, letter int) pair { return pair{mp.next(s.p, letter), mq.next(s.q, letter)} }
	found, rows := explore(pair{mp.start(), mq.start()}, len(a), next)
	// The states are found in the order of the first strings that lead to them.
	i := slices.IndexFunc(found, func(s pair) bool { return mp.final(s.p) != mq.final(s.q) })
	if i < 0 {
		return "", false
	}
	return first(a, rows, i), true
}

// isAcceptor reports whether x is valid.
func isAcceptor(x api.Acceptor) bool {
	n := len(x.Next)
	if n < 1 || n > api.MaxStates || len(x.Final) != n || len(x.Next[0]) > maxLetters {
		return false
	}
	isState := func(s int) bool { return s >= 0 && s < n }
	for _, row := range x.Next {
		if len(row) != len(x.Next[0]) || !all(row, isState) {
			return false
		}
	}
	return isState(x.Start)
}

// all reports whether test holds for each number of list.
func all(list []int, test func(int) bool) bool {
	return !slices.ContainsFunc(list, func(n int) bool { return !test(n) })
}

// explore returns the states that are reached from start, in the order of the numbering, and for each of them the numbers of its successors under the letters.
func explore[S comparable](start S, letters int, next func(s S, letter int) S) ([]S, [][]int) {
	number := map[S]int{start: 0}
	queue := []S{start}
	var rows [][]int
	for i := 0; i < len(queue); i++ {
		row := make([]int, letters)
		for letter := range letters {
			s := next(queue[i], letter)
			if _, ok := number[s]; !ok {
				number[s] = len(queue)
				queue = append(queue, s)
			}
			row[letter] = number[s]
		}
		rows = append(rows, row)
	}
	return queue, rows
}

// build returns the acceptor with these states and successors.
func build[S comparable](states []S, rows [][]int, final func(S) bool) api.Acceptor {
	x := api.Acceptor{Next: rows}
	for _, s := range states {
		x.Final = append(x.Final, final(s))
	}
	return x
}

// first returns the first string that leads from state 0 to the state with the number end, where explore found the rows.
func first(a []api.Letter, rows [][]int, end int) string {
	var out []rune
	for end != 0 {
		// The first row with a state is that of the state from which it was found.
		from := slices.IndexFunc(rows, func(row []int) bool { return slices.Contains(row, end) })
		out = append(out, a[slices.Index(rows[from], end)].Rune)
		end = from
	}
	slices.Reverse(out)
	return string(out)
}

// classes returns the class of each state, and the number of classes: from the states of one class, the same strings are accepted.
func classes(x api.Acceptor) ([]int, int) {
	class, count := split(make([]int, len(x.Final)), func(s int) int {
		if x.Final[s] {
			return 1
		}
		return 0
	})
	for before := 0; before < count; {
		before = count
		for letter := range len(x.Next[0]) {
			old := class
			class, count = split(old, func(s int) int { return old[x.Next[s][letter]] })
		}
	}
	return class, count
}

// split returns the classes of states that have the same class and the same mark, and their number.
func split(class []int, mark func(s int) int) ([]int, int) {
	type key struct {
		class int
		mark  int
	}
	number := make(map[key]int)
	out := make([]int, len(class))
	for s, c := range class {
		k := key{c, mark(s)}
		if _, ok := number[k]; !ok {
			number[k] = len(number)
		}
		out[s] = number[k]
	}
	return out, len(number)
}
