package gc_test

import (
	"slices"
	"testing"

	"sorrel/api"
	"sorrel/gc"
	"sorrel/heap"
	"sorrel/term"
)

// renamed is a term whose variables' places have moved.
func renamed(row []api.Cell, to []int) []api.Cell {
	l := slices.Clone(row)
	for i, c := range l {
		if c.Kind == api.Var {
			l[i].N = to[c.N]
		}
	}
	return l
}

// wantTerms asks of each root that it has the term that it had, but that its variables' places have moved;
// it tells how many have one.
func wantTerms(t *testing.T, h api.Heap, roots []int, g api.Heap, moved []int, to []int) int {
	t.Helper()
	told := 0
	if len(roots) != len(moved) {
		t.Fatal(roots, moved)
	}
	for i, root := range roots {
		was, is := heap.Get(h, root)
		now, still := heap.Get(g, moved[i])
		if is != still || !slices.Equal(renamed(was, to), now) {
			t.Fatal(h, root, was, g, moved[i], now)
		}
		if is {
			told++
		}
	}
	return told
}

// P9.2: each root has the term that it had.
func TestSameTerms(t *testing.T) {
	from := seeded(2)
	told, vars := 0, 0
	for range 6000 {
		l := from.tale(from.IntN(16))
		roots := from.places(l.h, 5)
		g, moved, _ := gc.Collect(l.h, roots, l.marks)
		told += wantTerms(t, l.h, roots, g, moved, gc.Moved(l.h, roots, l.marks))
		for _, at := range moved {
			if row, _ := heap.Get(g, at); len(row) > 2 && len(term.Vars(row)) > 0 {
				vars++
			}
		}
	}
	if told < 5000 || vars < 1000 {
		t.Error("too few to tell:", told, vars)
	}
}

// P9.2: a term is told behind it whose variable's place was above any variable's number.
func TestNearer(t *testing.T) {
	h := room(api.MaxRoom)
	for i := range 1500 {
		h.Cells = append(h.Cells, num(i))
	}
	h, place, _ := put(t, h, fun("f", variable(0)), nil)
	if _, is := heap.Get(h, place); is {
		t.Fatal("a variable's number is its place")
	}
	g, roots, _ := gc.Collect(h, []int{place}, nil)
	if row, is := heap.Get(g, roots[0]); !is || !slices.Equal(row, fun("f", variable(1))) {
		t.Error(row)
	}
}

// P9.3: a mark's roots have behind Undo the terms that they had behind Undo, in the heap as it was.
func TestUndone(t *testing.T) {
	from := seeded(3)
	told, freed := 0, 0
	for range 4000 {
		l := from.tale(4 + from.IntN(16))
		roots := from.places(l.h, 3)
		to := gc.Moved(l.h, roots, l.marks)
		g, _, marks := gc.Collect(l.h, roots, l.marks)
		for i, m := range l.marks {
			was, now := heap.Undo(l.h, m), heap.Undo(g, marks[i])
			if !same(was, l.was[i]) || !heap.Right(now) {
				t.Fatal(l.h, m, was, now)
			}
			told += wantTerms(t, was, m.Roots, now, marks[i].Roots, to)
			if len(now.Trail) < len(g.Trail) && len(now.Cells) > 0 {
				freed++
			}
		}
	}
	if min(told, freed) < 4000 {
		t.Error("too few to tell:", told, freed)
	}
}

// P9.3: so it is as one goes back to one mark after the other, with a collection ahead of each.
func TestUndoneOneByOne(t *testing.T) {
	from := seeded(4)
	told := 0
	for range 2000 {
		l := from.tale(4 + from.IntN(16))
		h, marks := l.h, l.marks
		// Where each of the first slots, that were there, has moved by now.
		to := make([]int, len(h.Cells))
		for at := range to {
			to[at] = at
		}
		for last := len(marks) - 1; last >= 0; last-- {
			step := gc.Moved(h, nil, marks[:last+1])
			for at, p := range to {
				if p >= 0 {
					to[at] = step[p]
				}
			}
			h, _, marks = gc.Collect(h, nil, marks[:last+1])
			h = heap.Undo(h, marks[last])
			told += wantTerms(t, l.was[last], l.marks[last].Roots, h, marks[last].Roots, to)
			// What came since is gone: nothing leads there any more.
			for at, p := range to {
				if p >= len(h.Cells) {
					to[at] = -1
				}
			}
		}
	}
	if told < 2000 {
		t.Error("too few to tell:", told)
	}
}

// P9.4: what stays keeps its order; the heap is right, and not longer, and done again changes nothing.
func TestSlides(t *testing.T) {
	from := seeded(5)
	shorter := 0
	for range 6000 {
		l := from.tale(from.IntN(16))
		roots := from.places(l.h, 4)
		told := tell(l.h, roots, l.marks)
		if !heap.Right(told.h) || len(told.h.Cells) > len(l.h.Cells) || len(told.h.Trail) > len(l.h.Trail) || told.h.Room != l.h.Room {
			t.Fatal(l.h, told.h)
		}
		next := 0
		for at, p := range told.to {
			switch {
			case p == next && told.h.Cells[p].Tag == l.h.Cells[at].Tag && told.h.Cells[p].Name == l.h.Cells[at].Name:
				next++
			case p != -1:
				t.Fatal(l.h, told)
			}
		}
		if next != len(told.h.Cells) {
			t.Fatal(l.h, told)
		}
		again := tell(told.h, told.roots, told.marks)
		if !same(again.h, told.h) || !slices.Equal(again.roots, told.roots) || !sameMarks(again.marks, told.marks) {
			t.Fatal(told, again)
		}
		for at, p := range again.to {
			if p != at {
				t.Fatal(again.to)
			}
		}
		if next < len(l.h.Cells) && next > 0 {
			shorter++
		}
	}
	if shorter < 2000 {
		t.Error("too few to tell:", shorter)
	}
}

// P9.5: any two slots that stay are made alike just as ahead of it: by the same bindings in the same order, or not at all.
func TestGoesOn(t *testing.T) {
	from := seeded(6)
	var count [2]int
	bound := 0
	for range 1500 {
		l := from.tale(from.IntN(14))
		told := tell(l.h, from.places(l.h, 4), l.marks)
		for a, p := range told.to {
			for b, q := range told.to {
				if p < 0 || q < 0 {
					continue
				}
				was, is := heap.Unify(l.h, a, b)
				now, still := heap.Unify(told.h, p, q)
				if is != still || !same(now, slid(was, told.to)) {
					t.Fatal(l.h, a, b, was, now)
				}
				if is {
					count[1]++
					bound = max(bound, len(now.Trail)-len(told.h.Trail))
				} else {
					count[0]++
				}
			}
		}
	}
	if min(count[0], count[1]) < 10000 || bound < 3 {
		t.Error("too few to tell:", count, bound)
	}
}

// slid are those of a heap's slots that have moved, where they have.
func slid(h api.Heap, to []int) api.Heap {
	g := api.Heap{Room: h.Room}
	for at, s := range h.Cells {
		if to[at] < 0 {
			continue
		}
		if s.Tag == api.Ref || s.Tag == api.Ptr {
			s.N = to[s.N]
		}
		g.Cells = append(g.Cells, s)
	}
	for _, at := range h.Trail {
		if to[at] >= 0 {
			g.Trail = append(g.Trail, to[at])
		}
	}
	return g
}

// run is a heap with roots and marks that goes on.
type run struct {
	h     api.Heap
	roots []int
	marks []api.Mark
}

// terms is one term of all roots', so that it tells which variables they share, numbered by first occurrence.
func (r run) terms(t *testing.T) []api.Cell {
	t.Helper()
	var l []api.Cell
	names := map[int]int{}
	for _, at := range r.roots {
		row, is := heap.Get(r.h, at)
		if !is {
			row = fun("none")
		}
		for _, c := range row {
			if c.Kind == api.Var {
				if _, is := names[c.N]; !is {
					names[c.N] = len(names)
				}
				c.N = names[c.N]
			}
			l = append(l, c)
		}
	}
	return l
}

// act is one thing that is done with a run, told without places.
type act struct {
	kind int
	row  []api.Cell
	a, b int
}

// done is a run after an act, and whether it went well.
func (r run) done(x act) (run, bool) {
	switch {
	case x.kind < 4:
		// Its first two variables are those at two roots.
		var at []int
		if len(r.roots) > 0 {
			at = []int{r.roots[x.a%len(r.roots)], r.roots[x.b%len(r.roots)]}
		}
		g, place, _, e := heap.Put(r.h, x.row, at)
		if e != api.OK {
			return r, false
		}
		return run{g, append(slices.Clone(r.roots), place), r.marks}, true
	case x.kind < 8 && len(r.roots) > 0:
		g, is := heap.Unify(r.h, r.roots[x.a%len(r.roots)], r.roots[x.b%len(r.roots)])
		return run{g, r.roots, r.marks}, is
	case x.kind == 8:
		return run{r.h, r.roots, append(slices.Clone(r.marks), heap.Mark(r.h, r.roots))}, true
	case x.kind == 9 && len(r.marks) > 0:
		last := len(r.marks) - 1
		return run{heap.Undo(r.h, r.marks[last]), r.marks[last].Roots, r.marks[:last]}, true
	case x.kind == 10 && len(r.roots) > 1:
		i := x.a % len(r.roots)
		return run{r.h, slices.Delete(slices.Clone(r.roots), i, i+1), r.marks}, true
	}
	return r, false
}

// T3, P9.5: a run with collections tells what it tells without any: they, and going back, change nothing of what comes.
func TestRuns(t *testing.T) {
	from := seeded(7)
	var count [11]int
	gone := 0
	for range 1500 {
		plain := run{h: heap.New(api.MaxRoom)}
		clean := plain
		for range 40 {
			x := act{kind: from.IntN(11), row: from.term(2, 4), a: from.IntN(100), b: from.IntN(100)}
			var is, still bool
			plain, is = plain.done(x)
			clean, still = clean.done(x)
			if from.coin() {
				clean.h, clean.roots, clean.marks = gc.Collect(clean.h, clean.roots, clean.marks)
			}
			if is != still || !slices.Equal(plain.terms(t), clean.terms(t)) {
				t.Fatal(x, plain, clean)
			}
			if is {
				count[x.kind]++
			}
		}
		gone += len(plain.h.Cells) - len(clean.h.Cells)
	}
	if slices.Min(count[:]) < 500 || gone < 3000 {
		t.Error("too few to tell:", count, gone)
	}
}

// P9.4: what went leaves room for others.
func TestRoomAgain(t *testing.T) {
	h, roots := heap.New(10), []int(nil)
	for i := range 50 {
		g, place, _, e := heap.Put(h, fun("f", number(i), fun("g", variable(0))), nil)
		if e == api.ErrFull {
			h, roots, _ = gc.Collect(h, roots[len(roots)-1:], nil)
			g, place, _, e = heap.Put(h, fun("f", number(i), fun("g", variable(0))), nil)
		}
		if e != api.OK {
			t.Fatal(i, h, e)
		}
		h, roots = g, append(roots, place)
		if row, is := heap.Get(h, place); !is || row[1].N != i {
			t.Fatal(i, row)
		}
	}
}

// P1: whatever is handed in, the calls end, and none panics.
func TestAnything(t *testing.T) {
	from := seeded(8)
	for range 60000 {
		h, marks := from.wild()
		roots := from.row()
		told := tell(h, roots, marks)
		if len(told.live) != len(h.Cells) || len(told.to) != len(h.Cells) || len(told.roots) != len(roots) || len(told.marks) != len(marks) {
			t.Fatal(h, roots, marks, told)
		}
	}
}

// P1: so they do at heaps that lead round, or are longer than may be.
func TestRoundAndLong(t *testing.T) {
	const many = 200000
	long, ring, deep := room(api.MaxRoom), room(api.MaxRoom), room(api.MaxRoom)
	for i := range many {
		long.Cells = append(long.Cells, ref(min(i+1, many-1)))
		ring.Cells = append(ring.Cells, ref((i+1)%many))
		deep.Cells = append(deep.Cells, top("s", 1), ptr((2*i+2)%(2*many)))
	}
	for _, h := range []api.Heap{long, ring, deep, room(9, ref(1), ref(0)), room(9, ptr(0), top("f", 1), ref(1)), room(9, top("f", 1<<62), ref(1), top("f", -1<<63))} {
		g, roots, _ := gc.Collect(h, []int{0, len(h.Cells) - 1}, []api.Mark{{Cells: 1 << 62, Trail: 1 << 62}, {Cells: -1, Trail: -1 << 63}})
		if len(g.Cells) > len(h.Cells) || roots[0] != 0 {
			t.Error(len(h.Cells), len(g.Cells), roots)
		}
	}
}

// spoil writes over all that was told, and behind it as far as there is memory.
func (l collected) spoil() {
	for i := range l.live {
		l.live[i] = !l.live[i]
	}
	for i := range l.h.Cells[:cap(l.h.Cells)] {
		l.h.Cells[:cap(l.h.Cells)][i] = api.Slot{Tag: -9, Name: "spoilt", N: -9}
	}
	for _, row := range [][]int{l.to, l.h.Trail, l.roots} {
		spoilRow(row)
	}
	for i, m := range l.marks {
		spoilRow(m.Roots)
		l.marks[i] = api.Mark{Cells: -9, Trail: -9}
	}
}

func spoilRow(l []int) {
	for i := range l[:cap(l)] {
		l[:cap(l)][i] = -9
	}
}

// P3: what is handed in stays as it is, and tells the same again, whatever becomes of what was told.
func TestUnchanged(t *testing.T) {
	from := seeded(9)
	for range 2000 {
		l := from.tale(from.IntN(14))
		// Memory behind a row is not the row's: nothing may be laid there.
		h, roots, marks := l.h, slices.Grow(from.places(l.h, 4), 50), l.marks
		h.Cells, h.Trail = slices.Grow(h.Cells, 50), slices.Grow(h.Trail, 50)
		was, rootsWas, marksWas := cloned(h), slices.Clone(roots), clonedMarks(marks)
		spare := slices.Clone(roots[:cap(roots)])
		first := tell(h, roots, marks)
		tell(h, roots, marks).spoil()
		if !same(h, was) || !slices.Equal(roots, rootsWas) || !sameMarks(marks, marksWas) || !slices.Equal(roots[:cap(roots)], spare) {
			t.Fatal(h, was, roots, marks)
		}
		if !first.same(tell(h, roots, marks)) || !first.same(tell(was, rootsWas, marksWas)) {
			t.Fatal(h, first)
		}
	}
}

// P3: no two rows of an answer share memory.
func TestOwnMemory(t *testing.T) {
	h := trailing(room(9, ref(2), ref(2), num(1)), 0, 1)
	roots := []int{0, 1}
	g, moved, marks := gc.Collect(h, roots, []api.Mark{heap.Mark(h, roots), heap.Mark(h, roots)})
	for _, row := range [][]int{g.Trail, moved, marks[0].Roots, marks[1].Roots} {
		if !slices.Equal(row, []int{0, 1}) {
			t.Error(row)
		}
		spoilRow(row)
	}
}

// P3: calls that run beside each other tell what they tell alone.
func TestBesideEachOther(t *testing.T) {
	from := seeded(10)
	l := from.tale(60)
	roots := from.places(l.h, 9)
	alone := tell(l.h, roots, l.marks)
	told := make(chan bool)
	for range 8 {
		go func() { told <- tell(l.h, roots, l.marks).same(alone) }()
	}
	for range 8 {
		if !<-told {
			t.Error("told otherwise")
		}
	}
}

// P3: an empty row and none are the same.
func TestEmpty(t *testing.T) {
	none, empty := room(5), api.Heap{Cells: []api.Slot{}, Trail: []int{}, Room: 5}
	if !tell(none, nil, nil).same(tell(empty, []int{}, []api.Mark{})) {
		t.Error("of no slots")
	}
	h := room(5, ref(0))
	if !tell(h, nil, []api.Mark{{Cells: 1}}).same(tell(trailing(h, []int{}...), []int{}, []api.Mark{{Cells: 1, Roots: []int{}}})) {
		t.Error("of no roots")
	}
}
