package matching

import "pentaglot/api"

// Explore returns the states that are reached from start, in the order in which a breadth-first search by the letters finds them, and for each of them the numbers of its successors under the letters.
func Explore[S comparable](start S, letters int, next func(s S, letter int) S) ([]S, [][]int) {
	number := map[S]int{start: 0}
	queue := []S{start}
	var rows [][]int
	for i := 0; i < len(queue); i++ {
		row := make([]int, letters)
		for letter := range letters {
			s := next(queue[i], letter)
			if _, ok := number[s]; !ok {
				number[s] = len(queue)
				queue = append(queue, s)
			}
			row[letter] = number[s]
		}
		rows = append(rows, row)
	}
	return queue, rows
}

// Build returns the acceptor with these states and successors, which begins in the first state.
func Build[S comparable](states []S, rows [][]int, final func(S) bool) api.Acceptor {
	x := api.Acceptor{Next: rows}
	for _, s := range states {
		x.Final = append(x.Final, final(s))
	}
	return x
}
