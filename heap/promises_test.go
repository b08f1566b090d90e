package heap_test

import (
	"slices"
	"testing"

	"sorrel/api"
	"sorrel/heap"
	"sorrel/subst"
	"sorrel/term"
	"sorrel/unify"
)

// placed is a term with, for each variable, the term of the place where it stands; false, if it is too long.
func placed(h api.Heap, row []api.Cell, at []int) ([]api.Cell, bool) {
	var s []api.Bind
	for _, v := range slices.Sorted(slices.Values(term.Vars(row))) {
		stands, is := heap.Get(h, at[v])
		if !is {
			return nil, false
		}
		if !slices.Equal(stands, variable(v)) {
			s = append(s, api.Bind{Var: v, T: stands})
		}
	}
	return subst.Apply(s, row)
}

// P8.2: what is put is got, with its variables' places; all that was there is as it was.
func TestBack(t *testing.T) {
	from := seeded(6)
	told := 0
	for range 4000 {
		h := from.heap(from.IntN(16))
		at, row := from.places(h, 5), from.term(3, 5)
		g, place, to := put(t, h, row, at)
		wanted, fits := placed(g, row, to)
		if !fits {
			wantNone(t, g, place)
			continue
		}
		told++
		wantGet(t, g, place, wanted)
		if !slices.Equal(g.Cells[:len(h.Cells)], h.Cells) || !slices.Equal(g.Trail, h.Trail) || g.Room != h.Room {
			t.Fatal(h, g)
		}
		for p := range h.Cells {
			was, is := heap.Get(h, p)
			if now, still := heap.Get(g, p); is != still || !slices.Equal(was, now) {
				t.Fatal(h, g, p)
			}
		}
		if _, is := heap.Get(h, len(h.Cells)); is {
			t.Fatal(h)
		}
	}
	if told < 3000 {
		t.Error("too few to tell:", told)
	}
}

// P8.2: a variable that stood somewhere stands there still; one of the term that stood nowhere is a new one of its own.
func TestVariables(t *testing.T) {
	from := seeded(7)
	for range 4000 {
		h := from.heap(from.IntN(16))
		at, row := from.places(h, 5), from.term(3, 5)
		g, _, to := put(t, h, row, at)
		met := map[int]bool{}
		for v, place := range to {
			switch {
			case v < len(at) && at[v] >= 0:
				if place != at[v] {
					t.Fatal(v, at, to)
				}
			case slices.Contains(term.Vars(row), v):
				if place < len(h.Cells) || g.Cells[place] != ref(place) || met[place] {
					t.Fatal(v, g, at, to)
				}
				met[place] = true
			case place != -1:
				t.Fatal(v, at, to)
			}
		}
		if len(to) < len(at) || len(to) > len(at) && !slices.Contains(term.Vars(row), len(to)-1) {
			t.Fatal(row, at, to)
		}
	}
}

// P8.2: a term that is put on an empty heap is got but for its variables' numbers.
func TestBackAlone(t *testing.T) {
	from := seeded(8)
	for range 4000 {
		row := from.term(5, 7)
		if !term.Right(row) {
			continue
		}
		h, place, _ := put(t, heap.New(2*api.MaxCells), row, nil)
		back, is := heap.Get(h, place)
		if !is || !unify.Variant(back, row) {
			t.Fatal(row, back)
		}
		// Put once more it is a variant of what it was, and nothing of it is the first one's.
		again, _, _ := put(t, h, back, nil)
		if got, is := heap.Get(again, len(h.Cells)); !is || !unify.Variant(got, row) {
			t.Fatal(row, got)
		}
	}
}

// P8.3: two places can be made alike just if their terms have a most general unifier; then both, and all others, are what it makes of them.
func TestAlike(t *testing.T) {
	from := seeded(9)
	var count [2]int
	for range 12000 {
		h := from.heap(2 + from.IntN(30))
		a, b := from.IntN(len(h.Cells)), from.IntN(len(h.Cells))
		wantAlike(t, h, a, b, &count)
	}
	if min(count[0], count[1]) < 1500 {
		t.Error("too few to tell:", count)
	}
}

// P8.3: so it is of terms that were put, and of such as came of others.
func TestAlikePut(t *testing.T) {
	from := seeded(10)
	var count [2]int
	for range 6000 {
		row := from.structure(3, 4)
		h, a, at := put(t, heap.New(900), row, nil)
		h, b, at := put(t, h, from.like(row), at)
		h, c, _ := put(t, h, from.like(row), at)
		wantAlike(t, h, a, b, &count)
		if g, is := heap.Unify(h, a, b); is {
			wantAlike(t, g, b, c, &count)
		}
	}
	if min(count[0], count[1]) < 1500 {
		t.Error("too few to tell:", count)
	}
}

// wantAlike asks of two places of a heap what P8.3 says, and counts noes and yeses.
func wantAlike(t *testing.T, h api.Heap, a int, b int, count *[2]int) {
	t.Helper()
	one, is := heap.Get(h, a)
	other, are := heap.Get(h, b)
	if !is || !are {
		return
	}
	s, e := unify.Mgu(one, other)
	g, alike := heap.Unify(h, a, b)
	if alike != (e != api.ErrNone) {
		t.Fatal(h, a, b, alike, e)
	}
	if turned, is := heap.Unify(h, b, a); is != alike || !same(turned, g) {
		t.Fatal(h, a, b, g, turned)
	}
	if !alike {
		count[0]++
		return
	}
	if e != api.OK {
		return
	}
	count[1]++
	for p := range h.Cells {
		was, is := heap.Get(h, p)
		if !is {
			continue
		}
		if wanted, fits := subst.Apply(s, was); fits {
			wantGet(t, g, p, wanted)
		} else {
			wantNone(t, g, p)
		}
	}
	if x, y := at(t, g, a), at(t, g, b); !slices.Equal(x, y) {
		t.Fatal(h, a, b, x, y)
	}
	if again, is := heap.Unify(g, b, a); !is || !same(again, g) {
		t.Fatal(g, again)
	}
}

// at is the term at a place, which must have one.
func at(t *testing.T, h api.Heap, place int) []api.Cell {
	t.Helper()
	row, is := heap.Get(h, place)
	if !is {
		t.Fatal(h, place)
	}
	return row
}

// P8.3: terms of more than 200 cells are made alike, too, though none is got.
func TestAlikeGreat(t *testing.T) {
	x := variable
	h, a, to := put(t, heap.New(4000), fun("f", x(0), x(1), x(2), x(3), x(4), x(5)), nil)
	h, b, _ := put(t, h, fun("f", fun("g", x(1), x(1), x(1)), fun("g", x(2), x(2), x(2)), fun("g", x(3), x(3), x(3)), fun("g", x(4), x(4), x(4)), fun("g", x(5), x(5), x(5)), x(5)), to)
	if _, e := unify.Mgu(at(t, h, a), at(t, h, b)); e != api.ErrBig {
		t.Fatal(e)
	}
	g := joined(t, h, a, b)
	wantNone(t, g, a)
	wantNone(t, g, b)
	if !slices.Equal(g.Trail, to[:5]) || !heap.Right(g) {
		t.Error(g.Trail, to)
	}
	if h := joined(t, g, to[5], to[5]); !same(h, g) {
		t.Error(h)
	}
	wantApart(t, g, to[5], to[0])
}

// P8.4: behind Undo a heap is as it was at the mark, whatever was done since, and however many marks there are.
func TestUndone(t *testing.T) {
	from := seeded(11)
	bound := 0
	for range 3000 {
		h := from.heap(from.IntN(14))
		h.Room = len(h.Cells) + 1 + from.IntN(60)
		at := from.places(h, 4)
		was := []api.Heap{h}
		marks := []api.Mark{heap.Mark(h, nil)}
		for range 1 + from.IntN(12) {
			h, at = from.step(h, at)
			was, marks = append(was, h), append(marks, heap.Mark(h, []int{from.extreme()}))
		}
		bound = max(bound, len(h.Trail)-len(was[0].Trail))
		for last := range was {
			for mark := range last + 1 {
				if g := heap.Undo(was[last], marks[mark]); !same(g, was[mark]) {
					t.Fatal(was[last], marks[mark], g, was[mark])
				}
			}
		}
		// Back to one mark after the other, with other things done in between.
		for mark := len(was) - 1; mark >= 0; mark-- {
			g, _ := from.step(h, nil)
			g, _ = from.step(g, nil)
			if h = heap.Undo(g, marks[mark]); !same(h, was[mark]) {
				t.Fatal(g, marks[mark], h, was[mark])
			}
		}
	}
	if bound < 5 {
		t.Error("too few to tell:", bound)
	}
}

// P8.4: what was done once more, behind Undo, comes to the same.
func TestDoneAgain(t *testing.T) {
	from := seeded(12)
	for range 3000 {
		h := from.heap(1 + from.IntN(14))
		row, other := from.structure(3, 4), from.structure(3, 4)
		try := func(h api.Heap) (api.Heap, bool) {
			h, a, at := put(t, h, row, nil)
			h, b, _ := put(t, h, other, at)
			return heap.Unify(h, a, b)
		}
		g, is := try(h)
		if again, still := try(heap.Undo(g, heap.Mark(h, nil))); is != still || !same(g, again) {
			t.Fatal(h, g, again)
		}
	}
}

// P8.5: right heaps stay right, whatever is done with them.
func TestStaysRight(t *testing.T) {
	from := seeded(13)
	for range 3000 {
		h := from.heap(from.IntN(14))
		h.Room = len(h.Cells) + 1 + from.IntN(60)
		at, first := from.places(h, 4), heap.Mark(h, nil)
		for range 12 {
			g, to := from.step(h, at)
			back := heap.Undo(g, heap.Mark(h, nil))
			for _, l := range []api.Heap{g, back, heap.Undo(g, first)} {
				if !heap.Right(l) || !right(l) || l.Room != h.Room {
					t.Fatal(l)
				}
			}
			h, at = g, to
		}
	}
	for _, many := range []int{1, 5, api.MaxRoom} {
		if !heap.Right(heap.New(many)) {
			t.Error(many)
		}
	}
}

// P1: whatever is handed in, the calls end, and none panics.
func TestAnything(t *testing.T) {
	from := seeded(14)
	for range 60000 {
		h := from.wild()
		a, b := from.extreme(), from.extreme()
		row, at := from.wildTerm(), from.row()
		if from.coin() {
			row = from.term(2, 4)
		}
		told := answersOf(h, row, at, a, b)
		if told.right != right(h) {
			t.Fatal(h)
		}
		if !told.is && len(told.term) > 0 || told.is && !term.Right(told.term) {
			t.Fatal(h, told.term)
		}
		if !told.alike && !same(told.joined, h) || told.err != api.OK && (!same(told.put, h) || told.place != 0 || len(told.at) > 0) {
			t.Fatal(h, told)
		}
	}
}

// P1, P2: of a row that is no right term, and of variables that stand where no slot is, Put tells an error, and the heap as it was.
func TestPutNothing(t *testing.T) {
	h, f := trailing(room(9, ref(1), num(7)), 0), fun("f", variable(1))
	for _, row := range [][]api.Cell{nil, {}, {{}}, fun(""), fun("f", nil), f[:1], append(fun("a"), fun("a")...), variable(-1), variable(api.MaxVar + 1), number(api.MaxInt + 1), nest(api.MaxCells, number(1))} {
		if g, place, to, e := heap.Put(h, row, []int{0, 1}); !same(g, h) || place != 0 || len(to) > 0 || e != api.ErrArg {
			t.Error(row, g, place, to, e)
		}
	}
	for _, at := range []int{2, -2, 9, 1 << 62, -1 << 63} {
		for _, row := range [][]api.Cell{f, variable(1)} {
			if g, place, to, e := heap.Put(h, row, []int{0, at}); !same(g, h) || place != 0 || len(to) > 0 || e != api.ErrArg {
				t.Error(at, g, place, to, e)
			}
		}
	}
}

// P1: calls end, and none panics, at heaps that lead round, or are longer than may be.
func TestRoundAndLong(t *testing.T) {
	const many = 30000
	long, ring, deep := room(api.MaxRoom), room(api.MaxRoom), room(api.MaxRoom)
	for i := range many {
		long.Cells = append(long.Cells, ref(min(i+1, many-1)))
		ring.Cells = append(ring.Cells, ref((i+1)%many))
		deep.Cells = append(deep.Cells, top("s", 1), ptr((2*i+2)%(2*many)))
	}
	for _, h := range []api.Heap{
		long, ring, deep, room(9, ref(1), ref(0)), room(9, top("f", 1), ref(0)), room(9, top("f", 2), ref(0), ref(0), top("f", 2), ref(3), ref(0)),
		room(9, top("f", 1<<62), ref(1), top("f", 1<<62), ref(3)), room(9, ptr(0), ref(1)), room(9, top("f", 1), ptr(0), top("f", 1), ptr(2)),
	} {
		if heap.Right(h) {
			t.Error(len(h.Cells))
		}
		for _, pair := range [][2]int{{0, 1}, {1, 0}, {0, 2}, {2, 0}, {0, len(h.Cells) - 1}, {0, 3}, {3, 1}} {
			answersOf(h, fun("f", variable(0)), []int{0}, pair[0], pair[1])
		}
	}
	wide := slices.Repeat(fun("f"), many)
	if _, place, to, e := heap.Put(heap.New(9), wide, nil); place != 0 || len(to) > 0 || e == api.OK {
		t.Error(e)
	}
}

// answers are what all calls tell of a heap, a term, and two places.
type answers struct {
	right  bool
	put    api.Heap
	place  int
	at     []int
	err    api.Errno
	term   []api.Cell
	is     bool
	joined api.Heap
	alike  bool
	mark   api.Mark
	undone api.Heap
}

func answersOf(h api.Heap, row []api.Cell, at []int, a int, b int) answers {
	var l answers
	l.right = heap.Right(h)
	l.put, l.place, l.at, l.err = heap.Put(h, row, at)
	l.term, l.is = heap.Get(h, a)
	l.joined, l.alike = heap.Unify(h, a, b)
	l.mark = heap.Mark(h, at)
	l.undone = heap.Undo(h, api.Mark{Cells: a, Trail: b, Roots: at})
	return l
}

func (l answers) same(o answers) bool {
	return l.right == o.right && same(l.put, o.put) && l.place == o.place && slices.Equal(l.at, o.at) && l.err == o.err &&
		slices.Equal(l.term, o.term) && l.is == o.is && same(l.joined, o.joined) && l.alike == o.alike &&
		l.mark.Cells == o.mark.Cells && l.mark.Trail == o.mark.Trail && slices.Equal(l.mark.Roots, o.mark.Roots) && same(l.undone, o.undone)
}

// spoil writes over all that was told, and behind it as far as there is memory.
func (l answers) spoil() {
	for _, h := range []api.Heap{l.put, l.joined, l.undone} {
		for i := range h.Cells[:cap(h.Cells)] {
			h.Cells[:cap(h.Cells)][i] = api.Slot{Tag: -9, Name: "spoilt", N: -9}
		}
		spoilRow(h.Trail)
	}
	for i := range l.term {
		l.term[i] = api.Cell{Kind: -9}
	}
	spoilRow(l.at)
	spoilRow(l.mark.Roots)
}

func spoilRow(l []int) {
	for i := range l[:cap(l)] {
		l[:cap(l)][i] = -9
	}
}

// P3: what is handed in stays as it is, and tells the same again, whatever becomes of what was told.
func TestUnchanged(t *testing.T) {
	from := seeded(15)
	for range 3000 {
		h := from.heap(1 + from.IntN(20))
		h.Room = len(h.Cells) + from.IntN(12)
		// Memory behind a row is not the row's: nothing may be laid there.
		h.Cells, h.Trail = slices.Grow(h.Cells, 50), slices.Grow(h.Trail, 50)
		row, at := from.term(3, 4), slices.Grow(from.places(h, 4), 50)
		a, b := from.IntN(len(h.Cells)+2), from.IntN(len(h.Cells)+2)
		was, rowWas, atWas := cloned(h), slices.Clone(row), slices.Clone(at)
		first := answersOf(h, row, at, a, b)
		answersOf(h, row, at, a, b).spoil()
		if !same(h, was) || !slices.Equal(row, rowWas) || !slices.Equal(at, atWas) {
			t.Fatal(h, was)
		}
		if !first.same(answersOf(h, row, at, a, b)) || !first.same(answersOf(was, rowWas, atWas, a, b)) {
			t.Fatal(h, first)
		}
	}
}

// P3: calls that run beside each other tell what they tell alone.
func TestBesideEachOther(t *testing.T) {
	from := seeded(16)
	h, row := from.heap(60), from.structure(4, 5)
	at := from.places(h, 5)
	alone := answersOf(h, row, at, 7, 23)
	told := make(chan bool)
	for range 8 {
		go func() { told <- answersOf(h, row, at, 7, 23).same(alone) }()
	}
	for range 8 {
		if !<-told {
			t.Error("told otherwise")
		}
	}
}

// P3: an empty row and none are the same.
func TestEmpty(t *testing.T) {
	none := room(5)
	empty := api.Heap{Cells: []api.Slot{}, Trail: []int{}, Room: 5}
	for _, row := range [][]api.Cell{variable(1), number(2), fun("f", variable(0), fun("a")), {}, nil} {
		if !answersOf(none, row, nil, 0, 0).same(answersOf(empty, row, []int{}, 0, 0)) {
			t.Error(row)
		}
	}
}
