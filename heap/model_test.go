package heap_test

import (
	"slices"
	"sort"
	"testing"

	"sorrel/api"
	"sorrel/heap"
)

// In this file what the chapter words is found a second time, from its words alone.

// steps are the places to which the slot at a place leads, in one step.
func steps(h api.Heap, at int) []int {
	var to []int
	switch s := h.Cells[at]; s.Tag {
	case api.Ref:
		if s.N != at {
			to = []int{s.N}
		}
	case api.Ptr:
		to = []int{s.N}
	case api.Top:
		for i := range s.N {
			to = append(to, at+1+i)
		}
	}
	return to
}

// leadsTo says whether a slot leads to a place in one or more steps, or is it.
func leadsTo(h api.Heap, at int, goal int) bool {
	return at == goal || slices.ContainsFunc(steps(h, at), func(to int) bool { return leadsTo(h, to, goal) })
}

// followed is where a place leads in the end.
func followed(h api.Heap, at int) int {
	for {
		s := h.Cells[at]
		if s.Tag != api.Ptr && (s.Tag != api.Ref || s.N == at) {
			return at
		}
		at = s.N
	}
}

// right is whether a heap of few slots is so.
func right(h api.Heap) bool {
	n := len(h.Cells)
	if h.Room < 1 || h.Room > 4096 || n > h.Room {
		return false
	}
	place := func(at int) bool { return at >= 0 && at < n }
	for at, s := range h.Cells {
		ok := false
		switch s.Tag {
		case api.Ref:
			ok = s.Name == "" && place(s.N)
		case api.Num:
			ok = s.Name == "" && s.N >= -(1<<31-1) && s.N <= 1<<31-1
		case api.Ptr:
			ok = s.Name == "" && place(s.N) && h.Cells[s.N].Tag == api.Top
		case api.Top:
			ok = len(s.Name) >= 1 && len(s.Name) <= 12 && s.N >= 0 && s.N <= 6 && at+s.N < n
			for _, b := range []byte(s.Name) {
				ok = ok && b >= 32 && b <= 126 && b != 39
			}
			for i := 1; ok && i <= s.N; i++ {
				ok = h.Cells[at+i].Tag != api.Top
			}
		}
		if !ok {
			return false
		}
	}
	to := make([][]bool, n)
	for at := range to {
		to[at] = make([]bool, n)
		for _, next := range steps(h, at) {
			to[at][next] = true
		}
	}
	for mid := range n {
		for i := range n {
			for j := range n {
				to[i][j] = to[i][j] || to[i][mid] && to[mid][j]
			}
		}
	}
	for at := range n {
		if to[at][at] {
			return false
		}
	}
	for i, at := range h.Trail {
		if !place(at) || h.Cells[at].Tag != api.Ref || h.Cells[at].N == at || slices.Contains(h.Trail[:i], at) {
			return false
		}
	}
	return true
}

// whole is where the term ends that begins at a place of a row.
func whole(t []api.Cell, at int) int {
	next := at + 1
	if t[at].Kind == api.Fun {
		for range t[at].N {
			next = whole(t, next)
		}
	}
	return next
}

// parts are the arguments of a Fun.
func parts(t []api.Cell) [][]api.Cell {
	var l [][]api.Cell
	for at := 1; at < len(t); at = whole(t, at) {
		l = append(l, t[at:whole(t, at)])
	}
	return l
}

// slotsOf is how many slots a Fun takes.
func slotsOf(t []api.Cell) int {
	many := 1
	for _, part := range parts(t) {
		many++
		if part[0].Kind == api.Fun {
			many += slotsOf(part)
		}
	}
	return many
}

// laid is what H2 says: places are told by how many slots each takes, and variables by rising places.
func laid(h api.Heap, t []api.Cell, at []int) (api.Heap, int, []int, bool) {
	first := len(h.Cells)
	slots, vars := map[int]api.Slot{}, map[int]int{}
	var lay func(t []api.Cell, to int)
	lay = func(t []api.Cell, to int) {
		slots[to] = top(t[0].Name, t[0].N)
		behind := to + 1 + t[0].N
		for i, part := range parts(t) {
			switch part[0].Kind {
			case api.Var:
				vars[to+1+i] = part[0].N
			case api.Int:
				slots[to+1+i] = num(part[0].N)
			case api.Fun:
				slots[to+1+i] = ptr(behind)
				lay(part, behind)
				behind += slotsOf(part)
			}
		}
	}
	place := first
	switch c := t[0]; {
	case c.Kind == api.Fun:
		lay(t, first)
	case c.Kind == api.Int:
		slots[first] = num(c.N)
	case c.N < len(at) && at[c.N] >= 0:
		place = at[c.N]
	default:
		vars[first] = c.N
	}
	most := len(at)
	for _, c := range t {
		if c.Kind == api.Var {
			most = max(most, c.N+1)
		}
	}
	to := slices.Repeat([]int{-1}, most)
	copy(to, at)
	var laidAt []int
	for p := range vars {
		laidAt = append(laidAt, p)
	}
	sort.Ints(laidAt)
	for _, p := range laidAt {
		if to[vars[p]] < 0 {
			to[vars[p]] = p
		}
		slots[p] = ref(to[vars[p]])
	}
	if first+len(slots) > h.Room {
		return h, 0, nil, false
	}
	g := cloned(h)
	for i := range len(slots) {
		g.Cells = append(g.Cells, slots[first+i])
	}
	return g, place, to, true
}

// cells is how many a place's term has; above 200 some number above 200.
func cells(h api.Heap, at int, known map[int]int) int {
	at = followed(h, at)
	if many, is := known[at]; is {
		return many
	}
	many := 1
	for _, to := range steps(h, at) {
		many += cells(h, to, known)
	}
	known[at] = min(many, 201)
	return known[at]
}

// got is what H3 says.
func got(h api.Heap, at int) ([]api.Cell, bool) {
	if at < 0 || at >= len(h.Cells) || cells(h, at, map[int]int{}) > 200 {
		return nil, false
	}
	at = followed(h, at)
	switch s := h.Cells[at]; s.Tag {
	case api.Ref:
		return variable(at), at <= 999
	case api.Num:
		return number(s.N), true
	}
	args := make([][]api.Cell, h.Cells[at].N)
	for i := range args {
		arg, is := got(h, at+1+i)
		if !is {
			return nil, false
		}
		args[i] = arg
	}
	return fun(h.Cells[at].Name, args...), true
}

// unified is what H4 says, of few slots: a pair that was taken off once is taken off again.
func unified(h api.Heap, a int, b int) (api.Heap, bool) {
	if min(a, b) < 0 || max(a, b) >= len(h.Cells) {
		return h, false
	}
	g := cloned(h)
	free := func(at int) bool { return g.Cells[at].Tag == api.Ref }
	bind := func(at int, to int) {
		g.Cells[at].N = to
		g.Trail = append(g.Trail, at)
	}
	for row := [][2]int{{a, b}}; len(row) > 0; {
		x, y := followed(g, row[0][0]), followed(g, row[0][1])
		row = row[1:]
		sx, sy := g.Cells[x], g.Cells[y]
		switch {
		case x == y:
		case free(x) && free(y):
			bind(max(x, y), min(x, y))
		case free(x):
			if leadsTo(g, y, x) {
				return h, false
			}
			bind(x, y)
		case free(y):
			if leadsTo(g, x, y) {
				return h, false
			}
			bind(y, x)
		case sx.Tag == api.Num && sy.Tag == api.Num && sx.N == sy.N:
		case sx.Tag == api.Top && sy.Tag == api.Top && sx.Name == sy.Name && sx.N == sy.N:
			var ahead [][2]int
			for i := 1; i <= sx.N; i++ {
				ahead = append(ahead, [2]int{x + i, y + i})
			}
			row = append(ahead, row...)
		default:
			return h, false
		}
	}
	return g, true
}

// P8.1: heaps are right as the chapter's words tell, of all that have up to two of these slots, and each trail.
func TestRightOfFew(t *testing.T) {
	var slots []api.Slot
	for tag := range 6 {
		for n := -1; n <= 3; n++ {
			slots = append(slots, api.Slot{Tag: tag, N: n}, api.Slot{Tag: tag, Name: "a", N: n})
		}
	}
	heaps := [][]api.Slot{nil}
	for _, s := range slots {
		heaps = append(heaps, []api.Slot{s})
		for _, next := range slots {
			heaps = append(heaps, []api.Slot{s, next}, []api.Slot{s, next, ref(2)}, []api.Slot{s, next, ref(0)})
		}
	}
	count := 0
	for _, l := range heaps {
		for _, trail := range [][]int{nil, {0}, {1}, {1, 0}, {0, 0}, {2}, {-1}} {
			for many := range 4 {
				h := api.Heap{Cells: l, Trail: trail, Room: many}
				if heap.Right(h) != right(h) {
					t.Fatal(h, right(h))
				}
				if right(h) {
					count++
				}
			}
		}
	}
	if count < 100 {
		t.Error("too few to tell:", count)
	}
}

// P8.1: and of seeded ones, with one slot changed.
func TestRightModel(t *testing.T) {
	from := seeded(1)
	var count [2]int
	for range 4000 {
		h := from.heap(1 + from.IntN(16))
		if !right(h) || !heap.Right(h) {
			t.Fatal(h)
		}
		at := from.IntN(len(h.Cells))
		h.Cells[at] = []api.Slot{ref(from.IntN(len(h.Cells))), ptr(from.IntN(len(h.Cells))), top("a", from.IntN(3)), num(from.IntN(3))}[from.IntN(4)]
		if heap.Right(h) != right(h) {
			t.Fatal(h, right(h))
		}
		if right(h) {
			count[1]++
		} else {
			count[0]++
		}
	}
	if min(count[0], count[1]) < 800 {
		t.Error("too few to tell:", count)
	}
}

// P8.1: terms are put as the chapter's words tell, with and without room for them.
func TestPutModel(t *testing.T) {
	from := seeded(2)
	var count [2]int
	for range 8000 {
		h := from.heap(from.IntN(12))
		at := from.places(h, 6)
		row := from.term(4, 6)
		h.Room = max(1, len(h.Cells)+from.IntN(40))
		wanted, place, to, fits := laid(h, row, at)
		g, p, now, e := heap.Put(h, row, at)
		if !same(g, wanted) || p != place || !slices.Equal(now, to) || (e == api.OK) != fits || !fits && e != api.ErrFull {
			t.Fatal(h, row, at, g, p, now, e, wanted, place, to)
		}
		if fits {
			count[1]++
		} else {
			count[0]++
		}
	}
	if min(count[0], count[1]) < 800 {
		t.Error("too few to tell:", count)
	}
}

// P8.1: a term of each place is got as the chapter's words tell.
func TestGetModel(t *testing.T) {
	from := seeded(3)
	var count [2]int
	for range 3000 {
		h := from.heap(from.IntN(70))
		if from.coin() {
			h = from.sharing(from.IntN(22))
		}
		for at := -2; at < len(h.Cells)+2; at++ {
			wanted, is := got(h, at)
			if !is {
				count[0]++
				wantNone(t, h, at)
				continue
			}
			count[1]++
			wantGet(t, h, at, wanted)
		}
	}
	// Four of each heap are no slot's place.
	if min(count[0]-4*3000, count[1]) < 1000 {
		t.Error("too few to tell:", count)
	}
}

// P8.1: places are made alike as the chapter's words tell, slot by slot, and by the same trail.
func TestUnifyModel(t *testing.T) {
	from := seeded(4)
	var count [2]int
	bound := 0
	for range 20000 {
		h := from.heap(1 + from.IntN(24))
		a, b := from.IntN(len(h.Cells)+1)-from.IntN(2), from.IntN(len(h.Cells)+1)
		wanted, is := unified(h, a, b)
		g, alike := heap.Unify(h, a, b)
		if alike != is || !same(g, wanted) {
			t.Fatal(h, a, b, g, alike, wanted, is)
		}
		if !is {
			count[0]++
			continue
		}
		count[1]++
		bound = max(bound, len(g.Trail)-len(h.Trail))
	}
	if min(count[0], count[1]) < 2000 || bound < 3 {
		t.Error("too few to tell:", count, bound)
	}
}

// P8.1: so are terms that were put.
func TestUnifyPutModel(t *testing.T) {
	from := seeded(5)
	var count [2]int
	for range 10000 {
		row := from.structure(3, 4)
		h, a, at := put(t, heap.New(400), row, nil)
		h, b, _ := put(t, h, from.like(row), at)
		wanted, is := unified(h, a, b)
		g, alike := heap.Unify(h, a, b)
		if alike != is || !same(g, wanted) {
			t.Fatal(h, a, b, g, alike, wanted, is)
		}
		if is {
			count[1]++
		} else {
			count[0]++
		}
	}
	if min(count[0], count[1]) < 2000 {
		t.Error("too few to tell:", count)
	}
}
