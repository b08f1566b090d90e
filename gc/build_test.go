package gc_test

import (
	"math/rand/v2"
	"slices"
	"testing"

	"sorrel/api"
	"sorrel/gc"
	"sorrel/heap"
)

func variable(n int) []api.Cell { return []api.Cell{{Kind: api.Var, N: n}} }

func number(n int) []api.Cell { return []api.Cell{{Kind: api.Int, N: n}} }

func fun(name string, args ...[]api.Cell) []api.Cell {
	return append([]api.Cell{{Kind: api.Fun, Name: name, N: len(args)}}, slices.Concat(args...)...)
}

func ref(n int) api.Slot { return api.Slot{Tag: api.Ref, N: n} }

func num(n int) api.Slot { return api.Slot{Tag: api.Num, N: n} }

func ptr(n int) api.Slot { return api.Slot{Tag: api.Ptr, N: n} }

func top(name string, n int) api.Slot { return api.Slot{Tag: api.Top, Name: name, N: n} }

// room is a heap of some slots, with room for so many.
func room(many int, cells ...api.Slot) api.Heap { return api.Heap{Cells: cells, Room: many} }

// trailing is a heap with another trail.
func trailing(h api.Heap, trail ...int) api.Heap {
	h.Trail = trail
	return h
}

func same(a api.Heap, b api.Heap) bool {
	return slices.Equal(a.Cells, b.Cells) && slices.Equal(a.Trail, b.Trail) && a.Room == b.Room
}

func sameMark(a api.Mark, b api.Mark) bool {
	return a.Cells == b.Cells && a.Trail == b.Trail && slices.Equal(a.Roots, b.Roots)
}

func sameMarks(a []api.Mark, b []api.Mark) bool { return slices.EqualFunc(a, b, sameMark) }

// cloned is a heap that shares nothing with h.
func cloned(h api.Heap) api.Heap {
	return api.Heap{Cells: slices.Clone(h.Cells), Trail: slices.Clone(h.Trail), Room: h.Room}
}

// clonedMarks are marks that share nothing with others.
func clonedMarks(marks []api.Mark) []api.Mark {
	l := slices.Clone(marks)
	for i, m := range l {
		l[i].Roots = slices.Clone(m.Roots)
	}
	return l
}

// put is a heap with a term, its place, and where variables stand; it must be well.
func put(t *testing.T, h api.Heap, row []api.Cell, at []int) (api.Heap, int, []int) {
	t.Helper()
	g, place, to, e := heap.Put(h, row, at)
	if e != api.OK {
		t.Fatal(row, at, e)
	}
	return g, place, to
}

// joined is a heap in which two places are made alike; they must be so.
func joined(t *testing.T, h api.Heap, a int, b int) api.Heap {
	t.Helper()
	g, is := heap.Unify(h, a, b)
	if !is {
		t.Fatal(h, a, b)
	}
	return g
}

// wantCollected asks for a heap, roots and marks of a collection, and for where slots move.
func wantCollected(t *testing.T, told collected, want collected) {
	t.Helper()
	if !told.same(want) {
		t.Fatalf("told %v, wanted %v", told, want)
	}
}

// collected is all that the calls tell of a heap, roots and marks.
type collected struct {
	live  []bool
	to    []int
	h     api.Heap
	roots []int
	marks []api.Mark
}

func tell(h api.Heap, roots []int, marks []api.Mark) collected {
	l := collected{live: gc.Live(h, roots), to: gc.Moved(h, roots, marks)}
	l.h, l.roots, l.marks = gc.Collect(h, roots, marks)
	return l
}

func (l collected) same(o collected) bool {
	return slices.Equal(l.live, o.live) && slices.Equal(l.to, o.to) && same(l.h, o.h) && slices.Equal(l.roots, o.roots) && sameMarks(l.marks, o.marks)
}

// source makes terms and heaps from a fixed seed.
type source struct{ *rand.Rand }

func seeded(n uint64) source { return source{rand.New(rand.NewPCG(n, 97))} }

func (from source) just(l ...string) string { return l[from.IntN(len(l))] }

func (from source) coin() bool { return from.IntN(2) == 0 }

// term is a small one of few names and so many variables.
func (from source) term(deep int, vars int) []api.Cell {
	switch kind := from.IntN(5 + 3*deep); {
	case kind < 3:
		return variable(from.IntN(vars))
	case kind < 4:
		return number(from.IntN(3) - 1)
	case kind < 5 || deep == 0:
		return fun(from.just("a", "b"))
	}
	args := make([][]api.Cell, 1+from.IntN(3))
	for i := range args {
		args[i] = from.term(deep-1, vars)
	}
	return fun(from.just("f", "f", "g"), args...)
}

// heap is a right one of some slots, that lead to each other in whatever way they may, ahead and back.
func (from source) heap(most int) api.Heap {
	h := api.Heap{Room: api.MaxRoom}
	for len(h.Cells) < most {
		at, own := len(h.Cells), from.IntN(4)
		if from.IntN(3) == 0 {
			h.Cells = append(h.Cells, ref(at))
			continue
		}
		h.Cells = append(h.Cells, top(from.just("f", "f", "g"), own))
		for i := range own {
			h.Cells = append(h.Cells, ref(at+1+i))
		}
	}
	for _, at := range from.Perm(len(h.Cells)) {
		if h.Cells[at].Tag == api.Ref {
			h.Cells[at] = from.slot(h, at)
		}
	}
	for _, at := range from.Perm(len(h.Cells)) {
		if s := h.Cells[at]; s.Tag == api.Ref && s.N != at && from.coin() {
			h.Trail = append(h.Trail, at)
		}
	}
	return h
}

// slot is what may stand at the place of a free variable.
func (from source) slot(h api.Heap, at int) api.Slot {
	to := from.IntN(len(h.Cells))
	switch kind := from.IntN(10); {
	case kind < 2:
		return num(from.IntN(3) - 1)
	case kind < 7 && !needed(h, []int{to})[at]:
		if h.Cells[to].Tag == api.Top && from.coin() {
			return ptr(to)
		}
		return ref(to)
	}
	return ref(at)
}

// places are some numbers, most of which are places of a heap's slots.
func (from source) places(h api.Heap, most int) []int {
	l := make([]int, from.IntN(most+1))
	for i := range l {
		l[i] = from.IntN(len(h.Cells)+3) - 1
		if from.IntN(12) == 0 {
			l[i] = from.extreme()
		}
	}
	return l
}

// tale is a heap, and those of which it came, each with its mark.
type tale struct {
	h     api.Heap
	at    []int // where variables stand
	was   []api.Heap
	marks []api.Mark
}

// tale is a right heap that came of another one in so many steps.
func (from source) tale(steps int) tale {
	l := tale{h: api.Heap{Room: api.MaxRoom}}
	if from.coin() {
		l.h = from.heap(from.IntN(12))
	}
	for range steps {
		if from.IntN(3) == 0 {
			l.was, l.marks = append(l.was, l.h), append(l.marks, heap.Mark(l.h, from.places(l.h, 3)))
		}
		l.h, l.at = from.step(l.h, l.at)
	}
	return l
}

// step is a heap after one more thing that is done with it, and where variables stand then.
func (from source) step(h api.Heap, at []int) (api.Heap, []int) {
	if len(h.Cells) == 0 || from.IntN(5) < 2 {
		if g, _, to, e := heap.Put(h, from.term(2, 4), at); e == api.OK {
			return g, to
		}
		return h, at
	}
	a, b := from.IntN(len(h.Cells)), from.IntN(len(h.Cells))
	if from.coin() {
		g, _ := heap.Unify(h, a, b)
		return g, at
	}
	return from.bound(h, a), at
}

// bound is a heap in which the variable at a place, if one is free there, is bound to a number that is laid
// behind all others, or to another place, though that is greater: in other ways than Unify's.
func (from source) bound(h api.Heap, at int) api.Heap {
	to := from.IntN(len(h.Cells) + 1)
	if h.Cells[at] != ref(at) || to < len(h.Cells) && needed(h, []int{to})[at] {
		return h
	}
	g := cloned(h)
	if to == len(g.Cells) {
		g.Cells = append(g.Cells, num(9))
	}
	g.Cells[at].N = to
	g.Trail = append(g.Trail, at)
	return g
}

// extreme is a number that is seldom a place.
func (from source) extreme() int {
	return []int{0, 1, 2, 3, 4, 5, -1, -2, 7, 30, 1000, api.MaxInt, api.MaxInt + 1, -api.MaxInt - 1, -1 << 63, 1<<63 - 1}[from.IntN(16)]
}

// row is some numbers, whatever they are.
func (from source) row() []int {
	l := make([]int, from.IntN(5))
	for i := range l {
		l[i] = from.extreme()
	}
	return l
}

// wild is a heap of any slots, and any marks.
func (from source) wild() (api.Heap, []api.Mark) {
	h := api.Heap{Cells: make([]api.Slot, from.IntN(9)), Trail: from.row(), Room: from.extreme()}
	for i := range h.Cells {
		h.Cells[i] = api.Slot{Tag: from.IntN(6), Name: from.just("", "", "a", "thirteenbytes"), N: from.IntN(10) - 1}
		if from.IntN(4) == 0 {
			h.Cells[i].N = from.extreme()
		}
	}
	marks := make([]api.Mark, from.IntN(4))
	for i := range marks {
		marks[i] = api.Mark{Cells: from.extreme(), Trail: from.extreme(), Roots: from.row()}
	}
	return h, marks
}
