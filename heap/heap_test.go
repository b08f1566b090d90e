package heap_test

import (
	"slices"
	"strings"
	"testing"

	"sorrel/api"
	"sorrel/heap"
)

// example is f(X0, g(X0), 7) on an empty heap.
func example(t *testing.T) (api.Heap, int, []int) {
	t.Helper()
	return put(t, heap.New(100), fun("f", variable(0), fun("g", variable(0)), number(7)), nil)
}

// P8.1: the chapter's examples.
func TestExamples(t *testing.T) {
	h, place, at := example(t)
	if !slices.Equal(h.Cells, []api.Slot{top("f", 3), ref(1), ptr(4), num(7), top("g", 1), ref(1)}) || place != 0 || !slices.Equal(at, []int{1}) {
		t.Error(h, place, at)
	}
	g, seven, _ := put(t, h, number(7), at)
	if seven != 6 {
		t.Error(seven)
	}
	for _, pair := range [][2]int{{1, 6}, {6, 1}, {5, 6}} {
		one := joined(t, g, pair[0], pair[1])
		if one.Cells[1] != ref(6) || !slices.Equal(one.Trail, []int{1}) {
			t.Error(one)
		}
		wantGet(t, one, 0, fun("f", number(7), fun("g", number(7)), number(7)))
	}
	wantApart(t, h, 1, 2)
	wantApart(t, h, 2, 1)
}

// P8.1: a new heap has no slots and no trail, and a room of 1 to 4096; else it is a zero heap.
func TestNew(t *testing.T) {
	for many, want := range map[int]int{1: 1, 2: 2, 20: 20, 4095: 4095, 4096: 4096, 0: 0, -1: 0, 4097: 0, 1 << 40: 0, -1 << 63: 0} {
		if h := heap.New(many); h.Room != want || len(h.Cells) > 0 || len(h.Trail) > 0 || heap.Right(h) != (want > 0) {
			t.Error(many, h)
		}
	}
}

// P8.1: slots may be up to their limits, and not above.
func TestRightSlots(t *testing.T) {
	for i, c := range []struct {
		h    api.Heap
		want bool
	}{
		{room(9, num(api.MaxInt), num(-api.MaxInt), num(0)), true},
		{room(9, num(api.MaxInt+1)), false},
		{room(9, num(-api.MaxInt-1)), false},
		{room(9, api.Slot{Tag: api.Num, Name: "a"}), false},
		{room(9, ref(0), ref(0), ref(1)), true},
		{room(9, ref(2), ref(1)), false},
		{room(9, ref(-1)), false},
		{room(9, api.Slot{Tag: api.Ref, Name: "a"}), false},
		{room(9, top("a", 0), ptr(0), ref(0), ref(1)), true},
		{room(9, top("a", 0), api.Slot{Tag: api.Ptr, Name: "a"}), false},
		{room(9, ptr(1), ptr(2), top("a", 0)), false},
		{room(9, ptr(2), top("a", 0)), false},
		{room(9, ptr(-1), top("a", 0)), false},
		{room(9, ptr(1), ref(1)), false},
		{room(9, ptr(1), num(1)), false},
		{room(9, ptr(0)), false},
		{room(9, top("~ ", 6), num(1), num(1), num(1), num(1), num(1), num(1)), true},
		{room(9, top("a", 7), num(1), num(1), num(1), num(1), num(1), num(1), num(1)), false},
		{room(9, top("a", 2), num(1)), false},
		{room(9, top("a", 1)), false},
		{room(9, top("a", -1)), false},
		{room(9, top("a", 1<<62)), false},
		{room(9, top("a", 1<<63-1), num(1)), false},
		{room(9, top("a", 1), top("a", 0)), false},
		{room(9, top("a", 2), num(1), top("a", 0)), false},
		{room(9, top("a", 1), num(1), top("a", 0)), true},
		{room(9, top("", 0)), false},
		{room(9, top("it's", 0)), false},
		{room(9, top("\x1f", 0)), false},
		{room(9, top("\x7f", 0)), false},
		{room(9, top("\xc3\xa9", 0)), false},
		{room(9, top("twelve_bytes", 0)), true},
		{room(9, top("thirteenbytes", 0)), false},
		{room(9, api.Slot{}), false},
		{room(9, api.Slot{Tag: 5}), false},
		{room(9, api.Slot{Tag: -1}), false},
		{room(2, num(1), num(1)), true},
		{room(1, num(1), num(1)), false},
		{room(0), false},
		{room(-1), false},
		{room(4096, make([]api.Slot, 4096)...), false},
		{room(4096, slices.Repeat([]api.Slot{num(1)}, 4096)...), true},
		{room(4096, slices.Repeat([]api.Slot{num(1)}, 4097)...), false},
		{room(4097, num(1)), false},
	} {
		if heap.Right(c.h) != c.want || len(c.h.Cells) < 20 && right(c.h) != c.want {
			t.Error(i, c.h, "wanted", c.want)
		}
	}
}

// P8.1: no slot leads to itself, in however many steps, unless it is free.
func TestRightRound(t *testing.T) {
	for i, c := range []struct {
		h    api.Heap
		want bool
	}{
		{room(9, ref(1), ref(0)), false},
		{room(9, ref(1), ref(2), ref(0)), false},
		{room(9, ref(1), ref(2), ref(2)), true},
		{room(9, top("f", 1), ref(0)), false},
		{room(9, top("f", 1), ptr(0)), false},
		{room(9, top("f", 2), ref(2), ref(1)), false},
		{room(9, top("f", 2), ref(2), ref(2)), true},
		{room(9, top("f", 1), ptr(2), top("g", 1), ptr(0)), false},
		{room(9, top("f", 1), ptr(2), top("g", 1), ref(1)), false},
		{room(9, top("f", 1), ptr(2), top("g", 1), ref(3)), true},
		{room(9, top("f", 2), ptr(3), ptr(3), top("g", 0)), true},
		{room(9, ref(1), top("f", 1), ref(0)), false},
	} {
		if heap.Right(c.h) != c.want || right(c.h) != c.want {
			t.Error(i, c.h, "wanted", c.want)
		}
	}
}

// P8.1: a trail has places of bound variables, none twice, in whatever order.
func TestRightTrail(t *testing.T) {
	h := room(9, ref(0), ref(0), ref(1), num(7), top("f", 1), ref(3), ptr(4))
	for _, trail := range [][]int{nil, {}, {1}, {2, 1}, {1, 2}, {5, 1, 2}} {
		if !heap.Right(trailing(h, trail...)) {
			t.Error(trail)
		}
	}
	for _, trail := range [][]int{{0}, {3}, {4}, {6}, {7}, {-1}, {1, 1}, {1, 2, 5, 1}, {1, 0}, {1 << 62}, {-1 << 63}} {
		if heap.Right(trailing(h, trail...)) {
			t.Error(trail)
		}
	}
}

// P8.1: slots of a term stand in the order of its arguments, and behind them those of Funs, each whole.
func TestPut(t *testing.T) {
	a, x := fun("a"), variable
	free := room(9, ref(0))
	for i, c := range []struct {
		h     api.Heap
		row   []api.Cell
		at    []int
		cells []api.Slot
		place int
		to    []int
	}{
		{room(9), x(0), nil, []api.Slot{ref(0)}, 0, []int{0}},
		{room(9), x(2), nil, []api.Slot{ref(0)}, 0, []int{-1, -1, 0}},
		{room(9), x(0), []int{-1, -1, -1}, []api.Slot{ref(0)}, 0, []int{0, -1, -1}},
		{free, x(0), []int{0}, []api.Slot{ref(0)}, 0, []int{0}},
		{free, x(1), []int{0}, []api.Slot{ref(0), ref(1)}, 1, []int{0, 1}},
		{free, x(1), []int{-1, 0, -1}, []api.Slot{ref(0)}, 0, []int{-1, 0, -1}},
		{room(9), number(-3), nil, []api.Slot{num(-3)}, 0, nil},
		{room(9), number(4), []int{-1}, []api.Slot{num(4)}, 0, []int{-1}},
		{room(9), a, nil, []api.Slot{top("a", 0)}, 0, nil},
		{free, a, []int{0, -1}, []api.Slot{ref(0), top("a", 0)}, 1, []int{0, -1}},
		{room(9), fun("f", x(1), x(0), x(1)), nil, []api.Slot{top("f", 3), ref(1), ref(2), ref(1)}, 0, []int{2, 1}},
		{free, fun("f", x(1), x(0)), []int{0}, []api.Slot{ref(0), top("f", 2), ref(2), ref(0)}, 1, []int{0, 2}},
		// A variable stands at its first slot, which need not be its first place in the term.
		{room(9), fun("f", fun("g", x(0)), x(0)), nil, []api.Slot{top("f", 2), ptr(3), ref(2), top("g", 1), ref(2)}, 0, []int{2}},
		{room(9), fun("f", fun("g", x(0)), fun("h", x(0))), nil, []api.Slot{top("f", 2), ptr(3), ptr(5), top("g", 1), ref(4), top("h", 1), ref(4)}, 0, []int{4}},
		// Each Fun is whole ahead of the next one.
		{room(9), fun("f", fun("g", a), a), nil, []api.Slot{top("f", 2), ptr(3), ptr(6), top("g", 1), ptr(5), top("a", 0), top("a", 0)}, 0, nil},
		// What stands somewhere may be bound, a number, or a top.
		{room(9, ref(1), num(7)), fun("f", x(0), x(1)), []int{0, 1}, []api.Slot{ref(1), num(7), top("f", 2), ref(0), ref(1)}, 2, []int{0, 1}},
		{room(9, top("a", 0)), fun("f", x(0)), []int{0}, []api.Slot{top("a", 0), top("f", 1), ref(0)}, 1, []int{0}},
		{room(9, top("a", 0)), x(0), []int{0}, []api.Slot{top("a", 0)}, 0, []int{0}},
	} {
		h, place, to, e := heap.Put(c.h, c.row, c.at)
		if !slices.Equal(h.Cells, c.cells) || place != c.place || !slices.Equal(to, c.to) || e != api.OK || h.Room != 9 || len(h.Trail) > 0 || !heap.Right(h) {
			t.Error(i, h, place, to, e)
		}
	}
	h, _, _ := put(t, trailing(room(9, ref(1), num(7)), 0), fun("f", x(0)), []int{0})
	if !slices.Equal(h.Trail, []int{0}) {
		t.Error("the trail is", h.Trail)
	}
}

// P8.1, P2: without room for all slots the heap stays as it is, with ErrFull; what takes no slot always has room.
func TestPutFull(t *testing.T) {
	h := trailing(room(4, ref(1), num(7)), 0)
	for i, row := range [][]api.Cell{
		fun("f", number(1), number(2)), fun("f", variable(0), variable(1)), fun("f", fun("a")), fun("f", fun("f", number(1))), nest(api.MaxCells-1, number(1)),
	} {
		if g, place, to, e := heap.Put(h, row, []int{0}); !same(g, h) || place != 0 || len(to) > 0 || e != api.ErrFull {
			t.Error(i, g, place, to, e)
		}
	}
	for i, row := range [][]api.Cell{fun("f", number(1)), fun("f", variable(0)), fun("f", variable(1)), fun("a"), number(1), variable(1)} {
		if _, place, _, e := heap.Put(h, row, []int{0}); place != 2 || e != api.OK {
			t.Error(i, place, e)
		}
	}
	full := room(2, ref(1), num(7))
	if g, place, to, e := heap.Put(full, variable(1), []int{-1, 0, 1}); !same(g, full) || place != 0 || !slices.Equal(to, []int{-1, 0, 1}) || e != api.OK {
		t.Error(g, place, to, e)
	}
	for _, row := range [][]api.Cell{variable(0), variable(3), number(1), fun("a")} {
		if g, place, to, e := heap.Put(full, row, []int{-1, 0, 1}); !same(g, full) || place != 0 || len(to) > 0 || e != api.ErrFull {
			t.Error(row, g, place, to, e)
		}
	}
}

// P8.1: up to the limits of terms and rooms.
func TestPutGreat(t *testing.T) {
	h, at := heap.New(api.MaxRoom), []int(nil)
	long := fun("f", nest(api.MaxCells-2, variable(api.MaxVar)))
	for many := 398; many <= api.MaxRoom; many += 398 {
		g, place, to := put(t, h, long, at)
		if len(g.Cells) != many || place != many-398 || len(to) != api.MaxVar+1 || to[api.MaxVar] != 397 || slices.Max(to[:api.MaxVar]) != -1 || !heap.Right(g) {
			t.Fatal(len(g.Cells), place, len(to))
		}
		h, at = g, to
	}
	for len(h.Cells) < api.MaxRoom {
		h, _, _ = put(t, h, number(1), nil)
	}
	if g, _, to, e := heap.Put(h, number(1), at); e != api.ErrFull || len(to) > 0 || !same(g, h) || !heap.Right(h) {
		t.Error(e)
	}
	wantGet(t, h, 398, fun("f", nest(api.MaxCells-2, variable(397))))
}

// P8.1: a place is followed, and its term got, as long as it has up to 200 cells, and its variables' places are up to 999.
func TestGet(t *testing.T) {
	h := room(40, ref(2), ref(1), ref(3), ptr(5), ref(0), top("f", 3), ref(1), ref(8), ptr(10), num(-7), top("a", 0))
	term := fun("f", variable(1), fun("a"), fun("a"))
	for at, row := range [][]api.Cell{term, variable(1), term, term, term, term, variable(1), fun("a"), fun("a"), number(-7), fun("a")} {
		wantGet(t, h, at, row)
	}
	for _, at := range []int{-1, 11, 39, 40, 1 << 62, -1 << 63} {
		wantNone(t, h, at)
	}
	wantNone(t, heap.New(9), 0)

	h, place, _ := put(t, heap.New(1000), nest(api.MaxCells-1, number(5)), nil)
	wantGet(t, h, place, nest(api.MaxCells-1, number(5)))
	h, above, _ := put(t, h, fun("f", variable(0)), []int{place})
	wantNone(t, h, above)
	h, beside, _ := put(t, h, fun("f", number(1), variable(0)), []int{place + 3})
	wantGet(t, h, beside, fun("f", number(1), nest(api.MaxCells-3, number(5))))
	h, beside, _ = put(t, h, fun("f", variable(0), number(1)), []int{place + 1})
	wantNone(t, h, beside)
}

// P8.1: so it is of variables by their places.
func TestGetVariables(t *testing.T) {
	h := heap.New(2000)
	for range 998 {
		h, _, _ = put(t, h, number(1), nil)
	}
	h, place, _ := put(t, h, fun("f", variable(0)), nil)
	wantGet(t, h, place, fun("f", variable(999)))
	wantGet(t, h, 999, variable(999))
	h, place, _ = put(t, h, fun("f", number(3), variable(0)), nil)
	wantNone(t, h, place)
	wantNone(t, h, 1002)
	wantGet(t, h, 1001, number(3))
	// Bound to a variable of a lesser place it has a term again.
	h = joined(t, h, 1002, 999)
	wantGet(t, h, place, fun("f", number(3), variable(999)))
}

// P8.1: of two free variables the one of the greater place is bound; a clash, or a variable within its term, is a no.
func TestUnify(t *testing.T) {
	h := room(40,
		ref(0), ref(1), ref(1), num(7), num(7), num(8), // 0 to 5
		top("f", 1), ref(0), top("f", 1), ref(1), // 6 to 9
		top("f", 1), ptr(6), top("g", 1), ref(13), top("f", 2), ref(1), ref(16), // 10 to 16
		top("a", 0), top("a", 0), top("b", 0), ptr(17), ref(20)) // 17 to 21
	if !heap.Right(h) {
		t.Fatal("not right")
	}
	for i, c := range []struct {
		a, b  int
		trail []int
		to    []int
	}{
		{0, 0, nil, nil}, {1, 2, nil, nil}, {3, 4, nil, nil}, {3, 3, nil, nil}, {17, 18, nil, nil}, {17, 21, nil, nil}, {18, 20, nil, nil},
		{0, 1, []int{1}, []int{0}}, {2, 0, []int{1}, []int{0}}, {13, 16, []int{16}, []int{13}},
		{0, 3, []int{0}, []int{3}}, {2, 5, []int{1}, []int{5}}, {0, 21, []int{0}, []int{17}}, {1, 6, []int{1}, []int{6}},
		{6, 8, []int{1}, []int{0}}, {8, 10, []int{1}, []int{6}}, {0, 8, []int{0}, []int{8}},
	} {
		for _, pair := range [][2]int{{c.a, c.b}, {c.b, c.a}} {
			g := joined(t, h, pair[0], pair[1])
			want := cloned(h)
			for k, at := range c.trail {
				want.Cells[at] = ref(c.to[k])
			}
			if want.Trail = c.trail; !same(g, want) || !heap.Right(g) {
				t.Error(i, g)
			}
		}
	}
	for _, pair := range [][2]int{{3, 5}, {3, 17}, {17, 19}, {6, 12}, {6, 14}, {17, 6}, {0, 6}, {7, 6}, {0, 10}, {6, 10}, {16, 14}, {-1, 0}, {22, 0}, {22, 22}, {-1, -1}, {1 << 62, 1}, {-1 << 63, 1}} {
		wantApart(t, h, pair[0], pair[1])
		wantApart(t, h, pair[1], pair[0])
	}
}

// P8.1: arguments' pairs come in order, ahead of all others, and what is bound goes behind the trail.
func TestUnifyOrder(t *testing.T) {
	x, f := variable, fun
	a, b := f("f", f("g", x(0), x(1)), x(2)), f("f", f("g", number(1), f("a")), number(3))
	h, p, at := put(t, heap.New(100), a, nil)
	h, q, _ := put(t, h, b, at)
	h, r, _ := put(t, h, x(5), at)
	h = joined(t, h, r, p)
	g := joined(t, h, p, q)
	if !slices.Equal(at, []int{4, 5, 2}) || !slices.Equal(h.Trail, []int{r}) || !slices.Equal(g.Trail, []int{r, 4, 5, 2}) {
		t.Error(at, h.Trail, g.Trail)
	}
	wantGet(t, g, r, b)

	// X0 is bound by the first pair, which the last one clashes with: nothing is bound then.
	h, p, at = put(t, heap.New(100), f("f", x(0), x(1), x(0)), nil)
	h, q, _ = put(t, h, f("f", number(1), number(2), number(3)), at)
	wantApart(t, h, p, q)
	// A variable within its own term is told even through another one's.
	h, p, at = put(t, heap.New(100), f("f", x(0), x(1)), nil)
	h, q, _ = put(t, h, f("f", f("g", x(1)), f("g", x(0))), at)
	wantApart(t, h, p, q)
}

// P8.1: what is shared is gone through once, even if its terms have more cells than could be counted.
func TestUnifyShared(t *testing.T) {
	const tops = 600
	chain := func(last api.Slot) []api.Slot {
		var l []api.Slot
		for i := range tops {
			l = append(l, top("f", 2), ptr(3*i+3), ref(3*i+3))
		}
		return append(l, top("f", 2), last, last)
	}
	moved := func(l []api.Slot, by int) []api.Slot {
		to := slices.Clone(l)
		for i, s := range to {
			if s.Tag == api.Ref || s.Tag == api.Ptr {
				to[i].N += by
			}
		}
		return to
	}
	one := chain(num(7))
	many := len(one)
	h := room(api.MaxRoom, append(slices.Clone(one), moved(one, many)...)...)
	if !heap.Right(h) {
		t.Fatal("not right")
	}
	if g := joined(t, h, 0, many); !same(g, h) {
		t.Error("something was bound")
	}
	wantNone(t, h, 0)
	h.Cells[len(h.Cells)-1] = num(8)
	wantApart(t, h, 0, many)
	h.Cells[len(h.Cells)-1] = ref(len(h.Cells) - 1)
	if g := joined(t, h, many, 0); !slices.Equal(g.Trail, []int{len(h.Cells) - 1}) {
		t.Error(g.Trail)
	}
	// A variable far within what it would be bound to.
	h.Cells = append(h.Cells, ref(len(h.Cells)-1))
	wantApart(t, h, len(h.Cells)-1, many)
	joined(t, h, len(h.Cells)-1, 0)
	// The same, within itself.
	h.Cells[len(h.Cells)-3] = ref(many)
	if heap.Right(h) {
		t.Error("right, though round")
	}
}

// P8.1: chains of variables are followed to their end, and structures to theirs, as long as there is room for them.
func TestLongChains(t *testing.T) {
	h := room(api.MaxRoom)
	for i := range api.MaxRoom - 1 {
		h.Cells = append(h.Cells, ref(i+1))
	}
	h.Cells = append(h.Cells, num(7))
	if !heap.Right(h) {
		t.Fatal("not right")
	}
	wantGet(t, h, 0, number(7))
	joined(t, h, 0, api.MaxRoom-1)
	last := cloned(h)
	last.Cells[api.MaxRoom-1] = ref(api.MaxRoom - 1)
	wantNone(t, last, 0)
	last.Cells[api.MaxRoom-1] = ref(0)
	if heap.Right(last) {
		t.Error("right, though round")
	}

	deep := room(api.MaxRoom)
	for at := 0; at+2 < api.MaxRoom; at += 2 {
		deep.Cells = append(deep.Cells, top("s", 1), ptr(at+2))
	}
	deep.Cells = append(deep.Cells, top("s", 1), ref(api.MaxRoom-1))
	if !heap.Right(deep) {
		t.Fatal("not right")
	}
	wantNone(t, deep, 0)
	wantApart(t, deep, 0, api.MaxRoom-1)
	wantApart(t, deep, 0, 2)
	// Its variable's place is above any variable's number, until it is bound.
	wantNone(t, deep, api.MaxRoom-24)
	deep.Cells[api.MaxRoom-1] = num(7)
	wantGet(t, deep, api.MaxRoom-24, nest(12, number(7)))
	wantGet(t, deep, api.MaxRoom-2*199, nest(199, number(7)))
	wantNone(t, deep, api.MaxRoom-2*200)
}

// P8.1: a mark is of how much there is, and of roots, whatever they are.
func TestMark(t *testing.T) {
	h, _, _ := example(t)
	h = joined(t, h, 1, 3)
	for _, roots := range [][]int{nil, {}, {0}, {4, 0, 4}, {-1, 99}} {
		if m := heap.Mark(h, roots); m.Cells != 6 || m.Trail != 1 || !slices.Equal(m.Roots, roots) {
			t.Error(m)
		}
	}
	if m := heap.Mark(heap.New(5), nil); m.Cells != 0 || m.Trail != 0 || len(m.Roots) != 0 {
		t.Error(m)
	}
}

// P8.1, P8.4: Undo takes off what came, and lets variables be free again that were bound since.
func TestUndo(t *testing.T) {
	h, _, at := example(t)
	begun := heap.Mark(heap.New(100), nil)
	first := heap.Mark(h, []int{0})
	h2, two, at := put(t, h, fun("h", variable(0), variable(1)), at)
	h2 = joined(t, h2, at[1], 4)
	second := heap.Mark(h2, nil)
	h3 := joined(t, h2, 1, 3)
	h3, _, _ = put(t, h3, fun("h", variable(2), variable(0)), at)
	if !slices.Equal(h3.Trail, []int{two + 2, 1}) {
		t.Fatal(h3)
	}
	for _, c := range []struct {
		m    api.Mark
		from api.Heap
		want api.Heap
	}{
		{begun, h, heap.New(100)}, {begun, h2, heap.New(100)}, {begun, h3, heap.New(100)},
		{first, h, h}, {first, h2, h}, {first, h3, h}, {second, h2, h2}, {second, h3, h2}, {heap.Mark(h3, nil), h3, h3},
	} {
		if g := heap.Undo(c.from, c.m); !same(g, c.want) {
			t.Error(c.m, g)
		}
	}
	if g := heap.Undo(heap.Undo(h3, second), first); !same(g, h) {
		t.Error(g)
	}
	// Roots play no part, and a Ref that was put stays one.
	g, _, _ := put(t, heap.New(9), fun("f", variable(0), variable(0)), nil)
	if back := heap.Undo(g, api.Mark{Cells: 3, Roots: []int{7, -1}}); !same(back, g) {
		t.Error(back)
	}
	if back := heap.Undo(g, api.Mark{Cells: 2}); !same(back, room(9, top("f", 2), ref(1))) {
		t.Error(back)
	}
}

// P8.1: names are told apart whole, and by how many arguments.
func TestNames(t *testing.T) {
	h := heap.New(100)
	var places []int
	for _, row := range [][]api.Cell{fun("a"), fun("aa"), fun("A"), fun("a", number(1)), fun("a", number(1), number(1)), number(1), number(-1), number(0), fun(strings.Repeat("a", 12))} {
		g, place, _ := put(t, h, row, nil)
		h, places = g, append(places, place)
	}
	for i, a := range places {
		for k, b := range places {
			if g, is := heap.Unify(h, a, b); is != (i == k) || !same(g, h) {
				t.Error(a, b, is)
			}
		}
	}
}
