package heap

import (
	"slices"

	"sorrel/api"
	"sorrel/term"
)

// nowhere is the place of a variable that does not stand anywhere yet.
const nowhere = -1

// laying is slots, behind which a right term is laid, and where each variable stands.
type laying struct {
	cells []api.Slot
	at    []int // of each variable of the term, by its number
}

// way is how a term is laid that is no argument, by its first cell: each of its ways tells the term's place.
func (l *laying) way(c api.Cell) func(t []api.Cell) int {
	switch {
	case c.Kind == api.Fun:
		return l.structure
	case c.Kind == api.Var && l.at[c.N] != nowhere:
		return l.standing
	}
	return l.single
}

// standing lays nothing: a variable stands somewhere.
func (l *laying) standing(t []api.Cell) int {
	return l.at[t[0].N]
}

// single lays the one slot of a variable that stands nowhere yet, or of a number.
func (l *laying) single(t []api.Cell) int {
	return l.add(l.slot(t[0]))
}

// structure lays the top of a Fun, a slot for each argument, and behind all these those arguments that are Funs.
func (l *laying) structure(t []api.Cell) int {
	top := l.add(api.Slot{Tag: api.Top, Name: t[0].Name, N: t[0].N})
	parts := term.Parts(t)
	for _, part := range parts {
		l.add(l.slot(part[0]))
	}
	for i, part := range parts {
		if part[0].Kind != api.Fun {
			continue
		}
		// Laid ahead of the slot's being looked up: slots move as their row grows.
		to := l.structure(part)
		l.cells[top+1+i].N = to
	}
	return top
}

// slot is what an argument has at the next place. Where a Fun's leads is told once its top is laid.
func (l *laying) slot(c api.Cell) api.Slot {
	switch c.Kind {
	case api.Var:
		if l.at[c.N] == nowhere {
			l.at[c.N] = len(l.cells)
		}
		return api.Slot{Tag: api.Ref, N: l.at[c.N]}
	case api.Int:
		return api.Slot{Tag: api.Num, N: c.N}
	}
	return api.Slot{Tag: api.Ptr}
}

// add lays one slot, and tells its place.
func (l *laying) add(s api.Slot) int {
	l.cells = append(l.cells, s)
	return len(l.cells) - 1
}

// known says whether each variable of t stands at a slot's place, or nowhere yet.
func known(cells []api.Slot, t []api.Cell, at []int) bool {
	for _, v := range term.Vars(t) {
		if v < len(at) && at[v] != nowhere && !stands(cells, at[v]) {
			return false
		}
	}
	return true
}

// widened is at in memory of its own, with a place for each variable of t.
func widened(at []int, t []api.Cell) []int {
	wide := slices.Clone(at)
	for _, v := range term.Vars(t) {
		for len(wide) <= v {
			wide = append(wide, nowhere)
		}
	}
	return wide
}
