package gc_test

import (
	"slices"
	"testing"

	"sorrel/api"
	"sorrel/heap"
)

// In this file what the chapter words is found a second time, from its words alone.

// steps are the places to which the slot at a place leads, in one step.
func steps(h api.Heap, at int) []int {
	var to []int
	switch s := h.Cells[at]; s.Tag {
	case api.Ref:
		if s.N != at {
			to = []int{s.N}
		}
	case api.Ptr:
		to = []int{s.N}
	case api.Top:
		for i := range s.N {
			to = append(to, at+1+i)
		}
	}
	return to
}

// needed is of each slot whether roots lead to it, found round by round, until a round finds none.
func needed(h api.Heap, roots []int) []bool {
	is := make([]bool, len(h.Cells))
	for at := range is {
		is[at] = slices.Contains(roots, at)
	}
	for found := true; found; {
		found = false
		for at := range h.Cells {
			for _, to := range steps(h, at) {
				if is[at] && !is[to] {
					is[to], found = true, true
				}
			}
		}
	}
	return is
}

// yeses is how many of a row are so.
func yeses(l []bool) int {
	many := 0
	for _, is := range l {
		if is {
			many++
		}
	}
	return many
}

// modelled is what I1 to I3 say.
func modelled(h api.Heap, roots []int, marks []api.Mark) collected {
	all := slices.Clone(roots)
	for _, m := range marks {
		all = append(all, m.Roots...)
	}
	stays := needed(h, all)
	place := func(at int) int {
		if at < 0 || at >= len(stays) || !stays[at] {
			return -1
		}
		return yeses(stays[:at])
	}
	places := func(row []int) []int {
		var l []int
		for _, at := range row {
			l = append(l, place(at))
		}
		return l
	}
	l := collected{live: needed(h, roots), h: api.Heap{Room: h.Room}, roots: places(roots)}
	for at, s := range h.Cells {
		l.to = append(l.to, place(at))
		if !stays[at] {
			continue
		}
		if s.Tag == api.Ref || s.Tag == api.Ptr {
			s.N = place(s.N)
		}
		l.h.Cells = append(l.h.Cells, s)
	}
	stay := func(trail []int) []int {
		return slices.DeleteFunc(places(trail), func(at int) bool { return at < 0 })
	}
	l.h.Trail = stay(h.Trail)
	for _, m := range marks {
		l.marks = append(l.marks, api.Mark{Cells: yeses(stays[:m.Cells]), Trail: len(stay(h.Trail[:m.Trail])), Roots: places(m.Roots)})
	}
	return l
}

// P9.1: what is told is what the chapter's words tell, of all right heaps of up to three of these slots, each
// choice of roots, and each of roots and those of a mark.
func TestFew(t *testing.T) {
	var slots []api.Slot
	for n := range 3 {
		slots = append(slots, ref(n), ptr(n), top("f", n))
	}
	slots = append(slots, num(7))
	heaps := [][]api.Slot{nil}
	for from := 0; len(heaps[from]) < 3; from++ {
		for _, s := range slots {
			heaps = append(heaps, append(slices.Clone(heaps[from]), s))
		}
	}
	count := 0
	for _, l := range heaps {
		h := room(9, l...)
		for at, s := range l {
			if s.Tag == api.Ref && s.N != at {
				h.Trail = append([]int{at}, h.Trail...)
			}
		}
		if !heap.Right(h) {
			continue
		}
		count++
		for choice := range 64 {
			roots, more := chosen(choice%8), chosen(choice/8)
			marks := []api.Mark{heap.Mark(h, more), heap.Mark(h, nil)}
			wantCollected(t, tell(h, roots, marks), modelled(h, roots, marks))
		}
	}
	if count < 100 {
		t.Error("too few to tell:", count)
	}
}

// chosen are those of three places that a number's bits choose.
func chosen(bits int) []int {
	var l []int
	for at := range 3 {
		if bits>>at&1 == 1 {
			l = append(l, at)
		}
	}
	return l
}

// P9.1: and of seeded heaps, with any roots, and marks of all heaps of which they came.
func TestModel(t *testing.T) {
	from := seeded(1)
	gone, stay, marked, trail := 0, 0, 0, 0
	for range 6000 {
		l := from.tale(from.IntN(16))
		if !heap.Right(l.h) {
			t.Fatal(l.h)
		}
		roots := from.places(l.h, 4)
		told := tell(l.h, roots, l.marks)
		wantCollected(t, told, modelled(l.h, roots, l.marks))
		gone += len(l.h.Cells) - len(told.h.Cells)
		stay += len(told.h.Cells)
		trail += len(told.h.Trail)
		for i, m := range told.marks {
			if 0 < m.Cells && m.Cells < min(l.marks[i].Cells, len(told.h.Cells)) && m.Trail < len(told.h.Trail) {
				marked++
			}
		}
	}
	if min(gone, stay) < 20000 || marked < 1000 || trail < 3000 {
		t.Error("too few to tell:", gone, stay, marked, trail)
	}
}
