package prog

import "sorrel/api"

// levels are on which level each predicate must stand at least, as far as the rounds have told.
type levels struct {
	of      []int   // of each predicate its level
	leaning [][]int // of each predicate those that lean on it
	denying [][]int // of each predicate those that lean on its negation
	top     []int   // those that every round raised so far: all on one level, and no other one as high
}

// flat are the levels ahead of the first round.
func flat(preds int, links []api.Link) *levels {
	v := &levels{of: make([]int, preds), leaning: make([][]int, preds), denying: make([][]int, preds), top: make([]int, preds)}
	for p := range preds {
		v.top[p] = p
	}
	for _, k := range links {
		if k.Neg {
			v.denying[k.To] = append(v.denying[k.To], k.From)
		} else {
			v.leaning[k.To] = append(v.leaning[k.To], k.From)
		}
	}
	return v
}

// raise is one round: those at the top, whose level is told, go one up that lean, however far, on the
// negation of one at the top.
func (v *levels) raise(level int) {
	last := v.top
	v.top = make([]int, 0, len(last))
	up := func(l []int) {
		for _, p := range l {
			// What leans on one at the top is there, too: it was raised by now, or is to be.
			if v.of[p] == level {
				v.of[p]++
				v.top = append(v.top, p)
			}
		}
	}
	for _, p := range last {
		up(v.denying[p])
	}
	// The row grows while it is gone through.
	for at := 0; at < len(v.top); at++ {
		up(v.leaning[v.top[at]])
	}
}
