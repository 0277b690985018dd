package rulecompiler

import (
	"cmp"
	"slices"

	"pentaglot/api"
)

// maxContexts is the number of sets of positions of a pattern: a context automaton has at most that many states.
const maxContexts = 1 << (api.MaxItems + 1)

// inverse looks for the words that a rule maps to the words of a set.
type inverse struct {
	contexts
	sets    *wordsets
	letters []letter // in descending order of their runes
	found   map[place]int
}

// letter is a letter with its number in the list of letters.
type letter struct {
	number int
	char   rune
}

// place is what matters of a beginning of a word: the state of the left automaton after it, how many letters may follow, and for each state in which the right automaton is after these letters the set of what the result may go on with.
type place struct {
	left  int
	spare int
	goals [maxContexts]int
}

// sources returns the set of the words of at most n letters of a that r maps to words of the set goal.
func sources(a []api.Letter, r api.Rule, sets *wordsets, goal, n int) int {
	v := inverse{newContexts(a, r), sets, nil, make(map[place]int)}
	for i, l := range a {
		// Another letter would be in the result, but is in no word of the goal.
		if l.Rune == r.From || sets.runes[l.Rune] {
			v.letters = append(v.letters, letter{i, l.Rune})
		}
	}
	slices.SortFunc(v.letters, func(x, y letter) int { return cmp.Compare(y.char, x.char) })
	begin := place{spare: n}
	for q := range v.right.Final {
		begin.goals[q] = v.entered(goal, 0, q)
	}
	return v.find(begin)
}

// find returns the set of what the words may go on with at a place.
func (v inverse) find(at place) int {
	if set, ok := v.found[at]; ok {
		return set
	}
	set := noWords
	// Without further letters the right automaton is in its start.
	if v.sets.isEnd(at.goals[0]) {
		set = emptyWord
	}
	for _, l := range v.letters {
		next := v.after(at, l)
		if next.spare >= 0 && next.goals != [maxContexts]int{} {
			set = v.sets.add(branch{l.char, v.find(next), set})
		}
	}
	v.found[at] = set
	return set
}

// after returns the place after a letter.
func (v inverse) after(at place, l letter) place {
	next := place{left: v.left.Next[at.left][l.number], spare: at.spare - 1}
	for q := range v.right.Final {
		goal := at.goals[v.right.Next[q][l.number]]
		if v.replaces(l.char, at.left, q) {
			goal = v.sets.after(goal, v.to...)
		} else {
			goal = v.sets.after(goal, l.char)
		}
		next.goals[q] = v.entered(goal, next.left, q)
	}
	return next
}

// entered returns with what the words of goal go on after what the rule inserts between two letters.
func (v inverse) entered(goal, p, q int) int {
	if v.inserts(p, q) {
		return v.sets.after(goal, v.to...)
	}
	return goal
}

// longest returns how many letters the result of r for a word of at most n letters can have, if they are not too many.
func longest(r api.Rule, n int) int {
	to := len([]rune(r.To))
	if r.From == 0 {
		return min(n+(n+1)*to, api.MaxWord)
	}
	return min(n*max(to, 1), api.MaxWord)
}
