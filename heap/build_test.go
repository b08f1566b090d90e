package heap_test

import (
	"math/rand/v2"
	"slices"
	"testing"

	"sorrel/api"
	"sorrel/heap"
)

func variable(n int) []api.Cell { return []api.Cell{{Kind: api.Var, N: n}} }

func number(n int) []api.Cell { return []api.Cell{{Kind: api.Int, N: n}} }

func fun(name string, args ...[]api.Cell) []api.Cell {
	return append([]api.Cell{{Kind: api.Fun, Name: name, N: len(args)}}, slices.Concat(args...)...)
}

// nest is a term in as many Funs of one argument.
func nest(times int, t []api.Cell) []api.Cell {
	return append(slices.Repeat([]api.Cell{{Kind: api.Fun, Name: "s", N: 1}}, times), t...)
}

func ref(n int) api.Slot { return api.Slot{Tag: api.Ref, N: n} }

func num(n int) api.Slot { return api.Slot{Tag: api.Num, N: n} }

func ptr(n int) api.Slot { return api.Slot{Tag: api.Ptr, N: n} }

func top(name string, n int) api.Slot { return api.Slot{Tag: api.Top, Name: name, N: n} }

// room is a heap of some slots, with room for so many.
func room(many int, cells ...api.Slot) api.Heap { return api.Heap{Cells: cells, Room: many} }

// trailing is a heap with another trail.
func trailing(h api.Heap, trail ...int) api.Heap {
	h.Trail = trail
	return h
}

func same(a api.Heap, b api.Heap) bool {
	return slices.Equal(a.Cells, b.Cells) && slices.Equal(a.Trail, b.Trail) && a.Room == b.Room
}

// cloned is a heap that shares nothing with h.
func cloned(h api.Heap) api.Heap {
	return api.Heap{Cells: slices.Clone(h.Cells), Trail: slices.Clone(h.Trail), Room: h.Room}
}

// put is a heap with a term, its place, and where variables stand; it must be well.
func put(t *testing.T, h api.Heap, row []api.Cell, at []int) (api.Heap, int, []int) {
	t.Helper()
	g, place, to, e := heap.Put(h, row, at)
	if e != api.OK {
		t.Fatal(row, at, e)
	}
	return g, place, to
}

// joined is a heap in which two places are made alike; they must be so.
func joined(t *testing.T, h api.Heap, a int, b int) api.Heap {
	t.Helper()
	g, is := heap.Unify(h, a, b)
	if !is {
		t.Fatal(h, a, b)
	}
	return g
}

// wantGet asks for the term at a place.
func wantGet(t *testing.T, h api.Heap, at int, row []api.Cell) {
	t.Helper()
	if got, is := heap.Get(h, at); !is || !slices.Equal(got, row) {
		t.Fatalf("of %d told %v %v, wanted %v", at, got, is, row)
	}
}

// wantNone asks that there is no term at a place.
func wantNone(t *testing.T, h api.Heap, at int) {
	t.Helper()
	if got, is := heap.Get(h, at); is || len(got) != 0 {
		t.Fatalf("of %d told %v %v, wanted none", at, got, is)
	}
}

// wantApart asks that two places can not be made alike, and that the heap stays as it is.
func wantApart(t *testing.T, h api.Heap, a int, b int) {
	t.Helper()
	if g, is := heap.Unify(h, a, b); is || !same(g, h) {
		t.Fatalf("of %d and %d told %v %v, wanted no", a, b, g, is)
	}
}

// source makes terms and heaps from a fixed seed.
type source struct{ *rand.Rand }

func seeded(n uint64) source { return source{rand.New(rand.NewPCG(n, 83))} }

func (from source) just(l ...string) string { return l[from.IntN(len(l))] }

func (from source) coin() bool { return from.IntN(2) == 0 }

// term is a small one of few names and so many variables.
func (from source) term(deep int, vars int) []api.Cell {
	switch kind := from.IntN(6 + 3*deep); {
	case kind < 4:
		return variable(from.IntN(vars))
	case kind < 5:
		return number(from.IntN(3) - 1)
	case kind < 6 || deep == 0:
		return fun(from.just("a", "b"))
	}
	return from.structure(deep, vars)
}

// structure is a term that begins with a Fun.
func (from source) structure(deep int, vars int) []api.Cell {
	args := make([][]api.Cell, 1+from.IntN(3))
	for i := range args {
		args[i] = from.term(deep-1, vars)
	}
	return fun(from.just("f", "f", "g"), args...)
}

// like is a structure with the same names, but for some variables; now and then another one.
func (from source) like(t []api.Cell) []api.Cell {
	if from.IntN(4) == 0 {
		return from.structure(3, 4)
	}
	other := slices.Clone(t)
	for i, c := range t {
		if (c.Kind != api.Fun || c.N == 0) && from.IntN(3) == 0 {
			other[i] = variable(from.IntN(8))[0]
		}
	}
	return other
}

// heap is a right one of some slots, that lead to each other in whatever way they may.
func (from source) heap(most int) api.Heap {
	h := api.Heap{Room: api.MaxRoom}
	for len(h.Cells) < most {
		at := len(h.Cells)
		if from.IntN(3) == 0 {
			h.Cells = append(h.Cells, ref(at))
			continue
		}
		own := from.IntN(4)
		h.Cells = append(h.Cells, top(from.just("f", "f", "g"), own))
		for i := range own {
			h.Cells = append(h.Cells, ref(at+1+i))
		}
	}
	for _, at := range from.Perm(len(h.Cells)) {
		if h.Cells[at].Tag == api.Ref {
			h.Cells[at] = from.slot(h, at)
		}
	}
	for _, at := range from.Perm(len(h.Cells)) {
		if s := h.Cells[at]; s.Tag == api.Ref && s.N != at && from.coin() {
			h.Trail = append(h.Trail, at)
		}
	}
	return h
}

// slot is what may stand at the place of a free variable.
func (from source) slot(h api.Heap, at int) api.Slot {
	to := from.IntN(len(h.Cells))
	switch kind := from.IntN(10); {
	case kind < 2:
		return num(from.IntN(3) - 1)
	case kind < 8 && to != at && !leadsTo(h, to, at):
		if h.Cells[to].Tag == api.Top && from.coin() {
			return ptr(to)
		}
		return ref(to)
	}
	return ref(at)
}

// sharing is a heap of so many tops, most of whose slots lead to some of the next ones: few slots stand for many cells.
func (from source) sharing(tops int) api.Heap {
	h := api.Heap{Room: api.MaxRoom}
	for i := range tops {
		h.Cells = append(h.Cells, top("f", 2))
		for own := 1; own <= 2; own++ {
			to := 3 * (i + 1 + from.IntN(3))
			switch {
			case to >= 3*tops || from.IntN(20) == 0:
				h.Cells = append(h.Cells, ref(3*i+own))
			case from.coin():
				h.Cells = append(h.Cells, ref(to))
			default:
				h.Cells = append(h.Cells, ptr(to))
			}
		}
	}
	return h
}

// places is where so many variables stand in a heap, if they do.
func (from source) places(h api.Heap, vars int) []int {
	at := make([]int, from.IntN(vars+1))
	for i := range at {
		at[i] = -1
		if len(h.Cells) > 0 && from.coin() {
			at[i] = from.IntN(len(h.Cells))
		}
	}
	return at
}

// step is a heap after one more thing that is done with it, and where variables stand then.
func (from source) step(h api.Heap, at []int) (api.Heap, []int) {
	if from.coin() && len(h.Cells) > 0 {
		g, _ := heap.Unify(h, from.IntN(len(h.Cells)), from.IntN(len(h.Cells)))
		return g, at
	}
	g, _, to, e := heap.Put(h, from.term(2, 4), at)
	if e != api.OK {
		return h, at
	}
	return g, to
}

// extreme is a number that is seldom a place.
func (from source) extreme() int {
	return []int{0, 1, 2, 3, 4, 5, -1, -2, 7, 30, 1000, api.MaxInt, api.MaxInt + 1, -api.MaxInt - 1, -1 << 63, 1<<63 - 1}[from.IntN(16)]
}

// row is some numbers, whatever they are.
func (from source) row() []int {
	l := make([]int, from.IntN(5))
	for i := range l {
		l[i] = from.extreme()
	}
	return l
}

// wildTerm is a row of cells, whatever they are.
func (from source) wildTerm() []api.Cell {
	t := make([]api.Cell, from.IntN(4))
	for i := range t {
		t[i] = api.Cell{Kind: from.IntN(5), Name: from.just("", "", "a", "it's"), N: from.extreme()}
	}
	return t
}

// wild is a heap of any slots.
func (from source) wild() api.Heap {
	h := api.Heap{Cells: make([]api.Slot, from.IntN(9)), Trail: from.row(), Room: from.extreme()}
	for i := range h.Cells {
		h.Cells[i] = api.Slot{Tag: from.IntN(6), Name: from.just("", "", "a", "thirteenbytes"), N: from.IntN(7) - 1}
		if from.IntN(4) == 0 {
			h.Cells[i].N = from.extreme()
		}
	}
	return h
}
