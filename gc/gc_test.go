package gc_test

import (
	"slices"
	"testing"

	"sorrel/api"
	"sorrel/gc"
	"sorrel/heap"
)

// P9.1: the chapter's examples.
func TestExamples(t *testing.T) {
	h, _, at := put(t, heap.New(100), fun("f", number(7)), nil)
	h, second, _ := put(t, h, fun("g", variable(0)), at)
	if second != 2 {
		t.Fatal(second)
	}
	wantCollected(t, tell(h, []int{second}, nil), collected{
		live: []bool{false, false, true, true}, to: []int{-1, -1, 0, 1}, h: room(100, top("g", 1), ref(1)), roots: []int{0},
	})
	wantCollected(t, tell(h, nil, nil), collected{live: make([]bool, 4), to: []int{-1, -1, -1, -1}, h: room(100)})
}

// P9.1: of a heap without slots nothing stays, but its room, and numbers of roots, that are no places.
func TestNoSlots(t *testing.T) {
	for _, many := range []int{1, 7, api.MaxRoom} {
		h := heap.New(many)
		wantCollected(t, tell(h, nil, nil), collected{h: h})
		wantCollected(t, tell(h, []int{0, -1, 5}, []api.Mark{heap.Mark(h, []int{3})}), collected{
			h: h, roots: []int{-1, -1, -1}, marks: []api.Mark{{Roots: []int{-1}}},
		})
	}
}

// P9.1: each kind of slot leads where the heap's chapter says, and nowhere else.
func TestLeads(t *testing.T) {
	h := room(50,
		top("f", 2), ref(4), ptr(6), // 0
		num(7), ref(3), // 3
		top("c", 0),         // 5
		top("g", 1), ref(8), // 6
		ref(8), ref(2), // 8
		top("h", 1), num(3), // 10
	)
	if !heap.Right(h) {
		t.Fatal("not right")
	}
	for _, c := range []struct{ roots, live []int }{
		{[]int{0}, []int{0, 1, 2, 3, 4, 6, 7, 8}},
		{[]int{1}, []int{1, 3, 4}}, // a top's slot alone does not need the top
		{[]int{2}, []int{2, 6, 7, 8}},
		{[]int{3}, []int{3}},
		{[]int{4}, []int{3, 4}},
		{[]int{5}, []int{5}},
		{[]int{6}, []int{6, 7, 8}},
		{[]int{7}, []int{7, 8}},
		{[]int{8}, []int{8}}, // what leads to a slot is not needed by it
		{[]int{9}, []int{2, 6, 7, 8, 9}},
		{[]int{10}, []int{10, 11}},
		{[]int{11}, []int{11}},
		{[]int{11, 5, 8, 5}, []int{5, 8, 11}},
		{[]int{12, -1, 1 << 40, -1 << 63}, nil},
		{nil, nil},
	} {
		live := gc.Live(h, c.roots)
		var l []int
		for at, is := range live {
			if is {
				l = append(l, at)
			}
		}
		if len(live) != len(h.Cells) || !slices.Equal(l, c.live) {
			t.Error(c.roots, l, c.live)
		}
	}
}

// P9.1: roots, those of marks, and what these lead to all stay; each is told where it has moved, as often as it was named.
func TestRootsAndMarks(t *testing.T) {
	h := trailing(room(50, num(1), ref(6), num(2), top("f", 1), ref(2), ref(0), num(3), ref(7)), 5, 4, 1)
	if !heap.Right(h) {
		t.Fatal("not right")
	}
	marks := []api.Mark{{Cells: 4, Trail: 1, Roots: []int{3, 8, 3}}, {Cells: 7, Trail: 2, Roots: []int{-5}}, {Cells: 8, Trail: 3, Roots: []int{6, 5}}}
	all := room(50, num(1), num(2), top("f", 1), ref(1), ref(0), num(3), ref(6))
	wantCollected(t, tell(h, []int{7, 99, 6, 7}, marks), collected{
		live:  []bool{false, false, false, false, false, false, true, true},
		to:    []int{0, -1, 1, 2, 3, 4, 5, 6},
		h:     trailing(all, 4, 3),
		roots: []int{6, -1, 5, 6},
		marks: []api.Mark{{Cells: 3, Trail: 1, Roots: []int{2, -1, 2}}, {Cells: 6, Trail: 2, Roots: []int{-1}}, {Cells: 7, Trail: 2, Roots: []int{5, 4}}},
	})
	wantCollected(t, tell(h, []int{1}, marks[1:2]), collected{
		live:  []bool{false, true, false, false, false, false, true, false},
		to:    []int{-1, 0, -1, -1, -1, -1, 1, -1},
		h:     trailing(room(50, ref(1), num(3)), 0),
		roots: []int{0},
		marks: []api.Mark{{Cells: 2, Trail: 0, Roots: []int{-1}}},
	})
	// Marks alone, and in another order.
	wantCollected(t, tell(h, nil, []api.Mark{marks[2], marks[0]}), collected{
		live:  make([]bool, 8),
		to:    []int{0, -1, 1, 2, 3, 4, 5, -1},
		h:     trailing(room(50, num(1), num(2), top("f", 1), ref(1), ref(0), num(3)), 4, 3),
		marks: []api.Mark{{Cells: 6, Trail: 2, Roots: []int{5, 4}}, {Cells: 3, Trail: 1, Roots: []int{2, -1, 2}}},
	})
}

// P9.1: a mark's numbers go by what is needed, not by what the mark had: slots that came since, to which its
// roots lead by now, stay behind it.
func TestMarkOfLess(t *testing.T) {
	h, f, at := put(t, heap.New(60), fun("f", variable(0), variable(1)), nil)
	m := heap.Mark(h, []int{f, 4, 6})
	h, _, at = put(t, h, fun("gone"), at)
	h, g, _ := put(t, h, fun("g", number(1)), at)
	h = joined(t, h, 1, 2)
	h = joined(t, h, 2, g)
	wantCollected(t, tell(h, nil, []api.Mark{m}), collected{
		live: make([]bool, 6), to: []int{0, 1, 2, -1, 3, 4},
		h:     trailing(room(60, top("f", 2), ref(3), ref(1), top("g", 1), num(1)), 2, 1),
		marks: []api.Mark{{Cells: 3, Trail: 0, Roots: []int{0, 3, -1}}},
	})
	// The first one that was bound is behind the mark; the other one ahead of a mark that came later.
	late := heap.Mark(joined(t, heap.Undo(h, m), 1, 2), []int{f})
	if late.Trail != 1 || late.Cells != 3 {
		t.Fatal(late)
	}
	if _, _, marks := gc.Collect(h, []int{1}, []api.Mark{late}); !sameMarks(marks, []api.Mark{{Cells: 3, Trail: 1, Roots: []int{0}}}) {
		t.Error(marks)
	}
}

// P9.1: as many slots as there may be, one leading to the next one, are all found, and all go but those from the root on.
func TestLong(t *testing.T) {
	chain, deep := room(api.MaxRoom), room(api.MaxRoom)
	for i := range api.MaxRoom {
		chain.Cells = append(chain.Cells, ref(min(i+1, api.MaxRoom-1)))
		chain.Trail = append(chain.Trail, i)
	}
	chain.Trail = chain.Trail[:api.MaxRoom-1]
	for at := 0; at+2 < api.MaxRoom; at += 2 {
		deep.Cells = append(deep.Cells, top("s", 1), ptr(at+2))
	}
	deep.Cells = append(deep.Cells, top("s", 1), num(0))
	for _, h := range []api.Heap{chain, deep} {
		if !heap.Right(h) {
			t.Fatal("not right")
		}
		for _, root := range []int{0, 2, 1000, api.MaxRoom - 2} {
			g, roots, marks := gc.Collect(h, []int{root}, []api.Mark{heap.Mark(h, []int{root})})
			if !heap.Right(g) || len(g.Cells) != api.MaxRoom-root || !slices.Equal(roots, []int{0}) || len(g.Trail) != max(0, len(h.Trail)-root) {
				t.Error(root, len(g.Cells), roots)
			}
			if !sameMarks(marks, []api.Mark{heap.Mark(g, []int{0})}) {
				t.Error(marks)
			}
		}
	}
}

// P9.1: slots that many others lead to are told as soon as others are.
func TestShared(t *testing.T) {
	h := room(api.MaxRoom)
	for at := 0; at+7 < api.MaxRoom-1; at += 7 {
		h.Cells = append(h.Cells, top("f", 6))
		for i := range 6 {
			h.Cells = append(h.Cells, []api.Slot{ref(at + 7), ptr(at + 7)}[i%2])
		}
	}
	h.Cells = append(h.Cells, top("c", 0))
	if !heap.Right(h) {
		t.Fatal("not right")
	}
	g, roots, _ := gc.Collect(h, []int{0, 0}, nil)
	if !same(g, h) || !slices.Equal(roots, []int{0, 0}) {
		t.Error(len(g.Cells), roots)
	}
}
