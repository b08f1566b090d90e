package gc

import "sorrel/api"

// search is which slots are known to be needed, and which of these are still to be looked at.
type search struct {
	cells []api.Slot
	live  []bool
	todo  []int
}

// from finds all that places lead to.
func (s *search) from(places []int) {
	need := s.need
	for _, at := range places {
		need(at)
	}
	for len(s.todo) > 0 {
		at := s.todo[len(s.todo)-1]
		s.todo = s.todo[:len(s.todo)-1]
		leads(s.cells, at, need)
	}
}

// need puts a slot's place with those that are still to be looked at, once: so slots that are shared, or
// lead round, are looked at once, too.
func (s *search) need(at int) {
	if at < 0 || at >= len(s.cells) || s.live[at] {
		return
	}
	s.live[at] = true
	s.todo = append(s.todo, at)
}

// leads hands on each place to which the slot at a place leads in one step. A free variable hands on its
// own, which is known by then.
func leads(cells []api.Slot, at int, hand func(to int)) {
	switch s := cells[at]; s.Tag {
	case api.Ref, api.Ptr:
		hand(s.N)
	case api.Top:
		// Cut, so that it ends at a top of whatever number.
		for i := range min(s.N, len(cells)-at-1) {
			hand(at + 1 + i)
		}
	}
}
