package heap

import (
	"sorrel/api"
	"sorrel/term"
)

// stands says whether a place is a slot's.
func stands(cells []api.Slot, at int) bool {
	return 0 <= at && at < len(cells)
}

// free says whether a slot, at its place, is a free variable.
func free(s api.Slot, at int) bool {
	return s.Tag == api.Ref && s.N == at
}

// onward says whether a slot, at its place, is followed to another one.
func onward(s api.Slot, at int) bool {
	return s.Tag == api.Ptr || s.Tag == api.Ref && s.N != at
}

// follow is the place of the free variable, the number or the top to which a place leads; false, if
// it is no slot's place.
func follow(cells []api.Slot, at int) (int, bool) {
	// Counted, so that it ends even where slots lead round.
	for range cells {
		if !stands(cells, at) {
			return 0, false
		}
		if !onward(cells[at], at) {
			return at, true
		}
		at = cells[at].N
	}
	return 0, false
}

// leads is to which places the slot at a place leads, in one step: the first one, and the one behind the last one.
func leads(cells []api.Slot, at int) (int, int) {
	switch s := cells[at]; {
	case s.Tag == api.Top:
		// Cut, so that whoever goes through them meets slots alone, and ends.
		return at + 1, at + 1 + min(s.N, len(cells)-at-1)
	case onward(s, at) && stands(cells, s.N):
		return s.N, s.N + 1
	}
	return at, at
}

// cell is what the slot at a place that was followed is in a term.
func cell(s api.Slot) api.Cell {
	kind := 0
	switch s.Tag {
	case api.Ref:
		// A free variable's number is its place by itself.
		kind = api.Var
	case api.Num:
		kind = api.Int
	case api.Top:
		kind = api.Fun
	}
	return api.Cell{Kind: kind, Name: s.Name, N: s.N}
}

// mayHave says whether a heap may have a room.
func mayHave(room int) bool {
	return 1 <= room && room <= api.MaxRoom
}

// may says whether the slot at a place is as it may be.
func may(cells []api.Slot, at int) bool {
	s := cells[at]
	switch s.Tag {
	case api.Ref:
		return s.Name == "" && stands(cells, s.N)
	case api.Num:
		return term.Right([]api.Cell{cell(s)})
	case api.Ptr:
		return s.Name == "" && stands(cells, s.N) && cells[s.N].Tag == api.Top
	case api.Top:
		return mayTop(cells, at)
	}
	return false
}

// mayTop says whether the top at a place is as it may be, and none stands among the slots that are its own.
func mayTop(cells []api.Slot, at int) bool {
	s := cells[at]
	if s.N < 0 || s.N > api.MaxArity || s.N >= len(cells)-at || !named(s.Name) {
		return false
	}
	for _, own := range cells[at+1 : at+1+s.N] {
		if own.Tag == api.Top {
			return false
		}
	}
	return true
}

// named says whether a top may have a name: it can stand in a right term.
func named(name string) bool {
	return term.Right([]api.Cell{{Kind: api.Fun, Name: name}})
}

// How far a slot is gone into, while it is asked whether it leads to itself.
const (
	unseen = 0
	open   = 1
	done   = 2
)

// round says whether a slot leads, in one or more steps, to itself.
func round(cells []api.Slot) bool {
	state := make([]int, len(cells))
	var enter func(at int) bool
	enter = func(at int) bool {
		if state[at] != unseen {
			return state[at] == open
		}
		state[at] = open
		first, behind := leads(cells, at)
		for to := first; to < behind; to++ {
			if enter(to) {
				return true
			}
		}
		state[at] = done
		return false
	}
	for at := range cells {
		if enter(at) {
			return true
		}
	}
	return false
}

// trailed says whether the trail has places of bound variables, none twice.
func trailed(h api.Heap) bool {
	met := make([]bool, len(h.Cells))
	for _, at := range h.Trail {
		if !stands(h.Cells, at) || met[at] || h.Cells[at].Tag != api.Ref || free(h.Cells[at], at) {
			return false
		}
		met[at] = true
	}
	return true
}
