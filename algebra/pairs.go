package algebra

import (
	"pentaglot/api"
	"pentaglot/raw"
)

// tree is the raw construction of Pairs: a tree of states, in which pairs share their common beginning.
type tree struct {
	api.Transducer
	ends map[api.Arc]int // where an arc ends; the keys are the arcs without their To
}

// Pairs returns a transducer that relates exactly these pairs.
func Pairs(list ...[2]string) (api.Transducer, api.Errno) {
	for _, p := range list {
		if !raw.Readable(p[0]) || !raw.Readable(p[1]) {
			return api.Transducer{}, api.ErrArgument
		}
	}
	t := tree{api.Transducer{States: 1}, make(map[api.Arc]int)}
	for _, p := range list {
		if t.add(p[0], p[1]); t.tooLarge() {
			return api.Transducer{}, api.ErrTooLarge
		}
	}
	return raw.Result(t.Transducer)
}

// Words returns the identity on these words.
func Words(list ...string) (api.Transducer, api.Errno) {
	var pairs [][2]string
	for _, w := range list {
		pairs = append(pairs, [2]string{w, w})
	}
	return Pairs(pairs...)
}

// tooLarge reports whether the tree cannot be a result. Each of its states leads to a final one, so that trimming will remove none, and long lists and strings need not be worked off.
func (t *tree) tooLarge() bool {
	return t.States > api.MaxStates
}

// add adds the pair of x and y, unless the tree becomes too large.
func (t *tree) add(x, y string) {
	in, out := []rune(x), []rune(y)
	state := 0
	for i := 0; i < max(len(in), len(out)) && !t.tooLarge(); i++ {
		step := api.Arc{From: state}
		if i < len(in) {
			step.In = in[i]
		}
		if i < len(out) {
			step.Out = out[i]
		}
		state = t.follow(step)
	}
	t.Finals = append(t.Finals, state)
}

// follow returns the state to which step leads, a new one if there is none.
func (t *tree) follow(step api.Arc) int {
	if end, ok := t.ends[step]; ok {
		return end
	}
	end := t.States
	t.ends[step] = end
	t.States++
	step.To = end
	t.Arcs = append(t.Arcs, step)
	return end
}
