package mach_test

import (
	"slices"
	"testing"

	"sorrel/api"
	"sorrel/code"
	"sorrel/gc"
	"sorrel/heap"
	"sorrel/mach"
	"sorrel/term"
	"sorrel/unify"
)

// matching is an atom, and a clause of its predicate whose head is often like it.
func (from source) matching() ([]api.Cell, api.Clause) {
	c := from.clause("p", from.IntN(5), 4)
	return from.like(c.Head), c
}

// P11.2: what comes of an atom is made of it and of the head, both, by bindings of their variables, and it is a variant
// of what comes of it once more.
func TestInstance(t *testing.T) {
	from := seeded(5)
	went := 0
	for range 10000 {
		a, c := from.matching()
		r := resolve(a, c, 900)
		if r.e != api.OK {
			continue
		}
		went++
		_, of := unify.Match(a, r.t)
		_, by := unify.Match(c.Head, r.t)
		if !of || !by || !term.Right(r.t) || len(r.body) != len(c.Body) {
			t.Fatal(a, c, r)
		}
		// What is so of it is so of the clause that it makes: that is resolved to itself.
		if again := resolve(r.t, clause(r.t, r.body...), 4000); !again.same(r) {
			t.Fatal(a, c, r, again)
		}
		if again := resolve(r.t, c, 4000); again.e != api.OK || !slices.Equal(again.t, r.t) {
			t.Fatal(a, c, r, again)
		}
	}
	if went < 6000 {
		t.Error("too few to tell:", went)
	}
}

// P11.3: names of variables play no part, of the atom's or the clause's, be they the same or not.
func TestNames(t *testing.T) {
	from := seeded(6)
	went := 0
	for range 6000 {
		a, c := from.matching()
		r := resolve(a, c, 900)
		by, other := from.Perm(api.MaxVar+1), from.Perm(api.MaxVar+1)
		for _, names := range [][2][]int{{by, other}, {by, by}, {other, by}} {
			b := renamed(clause(a), func(n int) int { return names[0][n] }).Head
			d := renamed(c, func(n int) int { return names[1][n] })
			if again := resolve(b, d, 900); !again.same(r) {
				t.Fatal(a, c, r, again)
			}
		}
		if r.e == api.OK {
			went++
		}
	}
	if went < 4000 {
		t.Error("too few to tell:", went)
	}
}

// P11.3: so they do for Run: places are those of the heap, whatever the code's clause calls its variables.
func TestNamesOfCode(t *testing.T) {
	from := seeded(7)
	for range 2000 {
		h, args, c := from.started()
		by := from.Perm(api.MaxVar + 1)
		l, other := compiled(t, c), compiled(t, renamed(c, func(n int) int { return by[n] }))
		if r := ran(h, args, l, len(l)); !r.same(ran(h, args, other, len(l))) {
			t.Fatal(h, args, c, r)
		}
	}
}

// P11.3: a clause's own head is resolved to that clause.
func TestOwnHead(t *testing.T) {
	from := seeded(8)
	for range 10000 {
		c := from.clause("p", from.IntN(api.MaxArity+1), api.MaxBody)
		want := numbered(c, 0)
		if r := resolve(c.Head, c, api.MaxRoom); !r.same(resolved{want.Head, want.Body, api.OK}) {
			t.Fatal(c, r)
		}
		// An atom of variables alone is resolved to it, too.
		most := fun("p")
		for i := range c.Head[0].N {
			most[0].N++
			most = append(most, variable(7*i)...)
		}
		if r := resolve(most, c, api.MaxRoom); !r.same(resolved{want.Head, want.Body, api.OK}) {
			t.Fatal(c, r)
		}
	}
}

// P11.4: a right heap stays right; Undo to a mark ahead has it as it was, and all heaps ahead of it.
func TestStaysRight(t *testing.T) {
	from := seeded(9)
	went, bound := 0, 0
	for range 6000 {
		h, args, c := from.started()
		h.Room = len(h.Cells) + from.IntN(80)
		was, marks := []api.Heap{h}, []api.Mark{heap.Mark(h, args)}
		for range 4 {
			l := compiled(t, c)
			r := ran(h, args, l, len(l)-from.IntN(4)/3)
			if !heap.Right(r.h) || r.h.Room != h.Room || r.e != api.OK && !same(r.h, h) {
				t.Fatal(h, args, c, r)
			}
			if r.e == api.OK {
				went++
				bound += len(r.h.Trail) - len(h.Trail)
			}
			h, c = r.h, from.clause("p", from.IntN(3), 2)
			was, marks = append(was, h), append(marks, heap.Mark(h, nil))
			if len(h.Cells) == 0 {
				break
			}
			args = from.places(h, c.Head[0].N)
		}
		for last := range was {
			for mark := range last + 1 {
				if g := heap.Undo(was[last], marks[mark]); !same(g, was[mark]) {
					t.Fatal(was[last], marks[mark], g, was[mark])
				}
			}
		}
	}
	if went < 6000 || bound < 4000 {
		t.Error("too few to tell:", went, bound)
	}
}

// P11.4: there is a goal for each literal, in order, of its predicate, and negative just if the literal is.
func TestGoals(t *testing.T) {
	from := seeded(10)
	told := 0
	for range 6000 {
		h, args, c := from.started()
		l := compiled(t, c)
		r := ran(h, args, l, len(l))
		if r.e != api.OK {
			continue
		}
		if len(r.goals) != len(c.Body) {
			t.Fatal(h, args, c, r)
		}
		for i, g := range r.goals {
			s := r.h.Cells[g.At]
			if x := c.Body[i]; g.Neg != x.Neg || s.Tag != api.Top || s.Name != x.T[0].Name || s.N != x.T[0].N || g.At < len(h.Cells) {
				t.Fatal(h, args, c, r, i)
			}
			told++
		}
		if r.done != len(l) {
			t.Fatal(h, args, c, r)
		}
	}
	if told < 5000 {
		t.Error("too few to tell:", told)
	}
}

// P11.4: all that was there is as it was, but that free variables are bound; what was a heap's own term still is one,
// made by what its variables are now.
func TestAllElse(t *testing.T) {
	from := seeded(11)
	for range 4000 {
		h, args, c := from.started()
		l := compiled(t, c)
		r := ran(h, args, l, len(l))
		if r.e != api.OK {
			continue
		}
		if !slices.Equal(r.h.Trail[:len(h.Trail)], h.Trail) {
			t.Fatal(h, r)
		}
		for at, s := range h.Cells {
			if free := s == ref(at); r.h.Cells[at] != s && (!free || !slices.Contains(r.h.Trail[len(h.Trail):], at)) {
				t.Fatal(h, args, c, r)
			}
		}
	}
}

// P11.5: with more room, and more steps, what went well goes alike.
func TestMore(t *testing.T) {
	from := seeded(12)
	went, small := 0, 0
	for range 4000 {
		h, args, c := from.started()
		l := compiled(t, c)
		h.Room = max(1, len(h.Cells)+from.IntN(30))
		r := ran(h, args, l, len(l)+from.IntN(3)-1)
		if r.e == api.ErrFull || r.e == api.ErrSteps {
			small++
		}
		if r.e != api.OK {
			continue
		}
		went++
		for range 4 {
			g := cloned(h)
			g.Room += from.IntN(api.MaxRoom - h.Room + 1)
			more := ran(g, args, l, len(l)+from.IntN(1000))
			more.h.Room = r.h.Room
			if !more.same(r) {
				t.Fatal(h, args, l, r, more)
			}
		}
	}
	if min(went, small) < 800 {
		t.Error("too few to tell:", went, small)
	}
}

// P11.5: a room is enough from some one on; below that ErrFull is told, or, just as with more room, ErrNone.
func TestMoreRoom(t *testing.T) {
	from := seeded(13)
	full := 0
	for range 1500 {
		a, c := from.matching()
		whole := resolve(a, c, api.MaxRoom)
		enough := false
		for many := 1; many < 120; many++ {
			r := resolve(a, c, many)
			if enough = enough || r.e != api.ErrFull; !enough {
				full++
			} else if !r.same(whole) {
				t.Fatal(a, c, many, r, whole)
			}
		}
		if !enough {
			t.Fatal(a, c)
		}
	}
	if full < 15000 {
		t.Error("too few to tell:", full)
	}
}

// named are the terms at all places of a heap, with their variables numbered from one to the next.
func named(t *testing.T, h api.Heap, places []int) [][]api.Cell {
	t.Helper()
	var all api.Clause
	for _, at := range places {
		row, is := heap.Get(h, at)
		if !is {
			row = fun("none")
		}
		all.Body = append(all.Body, api.Lit{T: row})
	}
	var l [][]api.Cell
	for _, x := range numbered(all, 0).Body {
		l = append(l, x.T)
	}
	return l
}

// T3: a collection ahead, and having gone back to a mark, change nothing of what comes.
func TestCleaned(t *testing.T) {
	from := seeded(14)
	count := map[api.Errno]int{}
	gone := 0
	for range 8000 {
		h, args, c := from.started()
		l := compiled(t, c)
		roots := slices.Concat(args, args, from.places(h, 1))
		clean, moved, marks := gc.Collect(h, roots, []api.Mark{heap.Mark(h, roots)})
		if from.coin() {
			// Something else is tried first.
			x := from.clause("p", len(args), 3)
			tried, _, _, _ := mach.Run(clean, moved[:len(args)], compiled(t, x), 99)
			clean = heap.Undo(tried, marks[0])
		}
		r, s := ran(h, args, l, len(l)), ran(clean, moved[:len(args)], l, len(l))
		for _, g := range r.goals {
			roots = append(roots, g.At)
		}
		for _, g := range s.goals {
			moved = append(moved, g.At)
		}
		if r.e != s.e || r.done != s.done || !slices.EqualFunc(named(t, r.h, roots), named(t, s.h, moved), slices.Equal) {
			t.Fatal(h, args, c, r, s)
		}
		count[r.e]++
		gone += len(h.Cells) - len(clean.Cells)
	}
	if min(count[api.OK], count[api.ErrNone]) < 1000 || gone < 10000 {
		t.Error("too few to tell:", count, gone)
	}
}

// T2: code on a heap resolves an atom that stands there, with whatever slots beside and between, as terms alone do.
func TestOnHeap(t *testing.T) {
	from := seeded(15)
	count := map[api.Errno]int{}
	for range 12000 {
		h, args, c := from.started()
		top, at, _, _ := heap.Put(h, fresh("p", len(args)), nil)
		for i, to := range args {
			top, _ = heap.Unify(top, at+1+i, to)
		}
		a, is := heap.Get(top, at)
		if !is {
			continue
		}
		l := compiled(t, c)
		r, want := ran(h, args, l, len(l)), byTerms(a, c)
		if count[r.e]++; r.e != want.e {
			t.Fatal(h, args, c, r, want)
		}
		if r.e != api.OK {
			continue
		}
		places, rows := slices.Clone(args), term.Parts(want.t)
		for i, g := range r.goals {
			places, rows = append(places, g.At), append(rows, want.body[i].T)
		}
		if !slices.EqualFunc(named(t, r.h, places), rows, slices.Equal) {
			t.Fatal(h, args, c, r, want)
		}
	}
	if min(count[api.OK], count[api.ErrNone]) < 3000 {
		t.Error("too few to tell:", count)
	}
}

// P1, P2: whatever is handed in, the calls end, and none panics; with an error nothing else is told but how many
// instructions had been done, and the heap as it was.
func TestAnything(t *testing.T) {
	from := seeded(16)
	count := map[api.Errno]int{}
	for range 100000 {
		h, l, args, steps := from.wildHeap(), from.wildCode(), from.row(), from.extreme()
		if from.coin() {
			h = from.heap(1 + from.IntN(9))
			args = from.places(h, from.IntN(4))
		}
		if from.coin() {
			steps = 20
		}
		r := ran(h, args, l, steps)
		count[r.e]++
		if r.done < 0 || r.done > len(l) || r.e != api.OK && (!same(r.h, h) || len(r.goals) > 0) || r.e == api.OK && r.done != len(l) {
			t.Fatal(h, args, l, steps, r)
		}
	}
	if min(count[api.OK], count[api.ErrNone], count[api.ErrFull], count[api.ErrSteps], count[api.ErrArg]) < 1000 {
		t.Error("too few to tell:", count)
	}
	for range 60000 {
		a, c := from.matching()
		if from.IntN(3) == 0 {
			a = from.wildTerm()
		}
		if from.IntN(3) == 0 {
			c.Head = from.wildTerm()
		}
		for i := range c.Body {
			if from.IntN(6) == 0 {
				c.Body[i].T = from.wildTerm()
			}
		}
		if r := resolve(a, c, from.extreme()); r.e != api.OK && len(r.t)+len(r.body) > 0 || r.e == api.OK && !term.Right(r.t) {
			t.Fatal(a, c, r)
		}
	}
}

// P1: atoms and clauses that may not be, and rooms that may not be, tell an error.
func TestNothing(t *testing.T) {
	p := fun("p")
	for _, a := range [][]api.Cell{nil, {}, {{}}, variable(0), number(7), fun(""), {{Kind: api.Fun, Name: "p", N: 1}}, append(fun("p"), fun("p")...), fun("p", variable(-1)), nest(api.MaxCells, p)} {
		for _, c := range []api.Clause{clause(p), clause(fun("p", variable(0))), clause(nest(3, p)), {}} {
			if r := resolve(a, c, 4096); r.e == api.OK || len(r.t)+len(r.body) > 0 {
				t.Error(a, c, r)
			}
		}
	}
	for _, c := range []api.Clause{{}, clause(number(1)), clause(variable(0)), clause(p, is(nil)), clause(p, is(variable(0))), clause(p, not(number(1))), clause(p, slices.Repeat([]api.Lit{is(p)}, api.MaxBody+1)...)} {
		if r := resolve(p, c, 4096); r.e == api.OK || len(r.t)+len(r.body) > 0 {
			t.Error(c, r)
		}
	}
	for _, many := range []int{0, -1, -1 << 63, api.MaxRoom + 1, 1<<63 - 1} {
		if r := resolve(p, clause(p), many); r.e == api.OK || len(r.t)+len(r.body) > 0 {
			t.Error(many, r)
		}
	}
}

// P1: heaps that lead round, or are longer than may be, and instructions that ask for what may not be, come to an end.
func TestRoundAndLong(t *testing.T) {
	const many = 30000
	long, ring := room(api.MaxRoom), room(1<<62)
	for i := range many {
		long.Cells = append(long.Cells, ref(min(i+1, many-1)))
		ring.Cells = append(ring.Cells, ref((i+1)%many))
	}
	for _, h := range []api.Heap{long, ring, room(9, ref(1), ref(0)), room(9, ptr(0)), room(1<<62, ref(0)), room(9, top("f", 1<<62), ref(1)), room(-1, ref(0)), {}} {
		for _, n := range []int{0, 1, 6, 7, 1 << 62, -1, -1 << 63} {
			for _, l := range [][]api.Instr{
				{{Op: api.GetInt, N: n}}, {{Op: api.GetFun, Name: "f", N: n}, {Op: api.UniVal}, {Op: api.UniInt, N: n}}, {{Op: api.PutFun, Name: "f", N: n}, {Op: api.SetVal, X: n}, {Op: api.SetInt, N: n}},
				{{Op: api.GetVar, X: n, A: n}, {Op: api.GetVal, X: n}}, {{Op: n}}, {{Op: api.Call, A: n}},
			} {
				for _, args := range [][]int{nil, {0}, {n}, {0, n, 1}} {
					if r := ran(h, args, l, 9); r.e != api.OK && (!same(r.h, h) || len(r.goals) > 0) {
						t.Error(len(h.Cells), l, r.e)
					}
				}
			}
		}
	}
}

// spoil writes over all that was told, and behind it as far as there is memory.
func (r run) spoil() {
	for i := range r.h.Cells[:cap(r.h.Cells)] {
		r.h.Cells[:cap(r.h.Cells)][i] = api.Slot{Tag: -9, Name: "spoilt", N: -9}
	}
	for i := range r.h.Trail[:cap(r.h.Trail)] {
		r.h.Trail[:cap(r.h.Trail)][i] = -9
	}
	for i := range r.goals[:cap(r.goals)] {
		r.goals[:cap(r.goals)][i] = api.Goal{At: -9}
	}
}

// spoil writes over all that was told; no row of it has memory of another one.
func (r resolved) spoil() bool {
	rows := [][]api.Cell{r.t}
	for _, x := range r.body {
		rows = append(rows, x.T)
	}
	own := true
	for i, row := range rows {
		rest := make([][]api.Cell, 0, len(rows))
		for _, other := range rows[i+1:] {
			rest = append(rest, slices.Clone(other))
		}
		for k := range row[:cap(row)] {
			row[:cap(row)][k] = api.Cell{Kind: -9}
		}
		own = own && slices.EqualFunc(rows[i+1:], rest, slices.Equal)
	}
	return own
}

// P3: what is handed in stays as it is, and tells the same again, whatever becomes of what was told.
func TestUnchanged(t *testing.T) {
	from := seeded(17)
	for range 4000 {
		h, args, c := from.started()
		h.Room = len(h.Cells) + from.IntN(60)
		l, a := compiled(t, c), from.like(c.Head)
		// Memory behind a row is not the row's: nothing may be laid there.
		h.Cells, h.Trail, args, l, a = slices.Grow(h.Cells, 90), slices.Grow(h.Trail, 90), slices.Grow(args, 9), slices.Grow(l, 9), slices.Grow(a, 9)
		spare := slices.Clone(h.Cells[:cap(h.Cells)])
		was, argsWas, codeWas, aWas, cWas := cloned(h), slices.Clone(args), slices.Clone(l), slices.Clone(a), copied(c)
		first, one := ran(h, args, l, len(l)), resolve(a, c, 300)
		ran(h, args, l, len(l)).spoil()
		if !resolve(a, c, 300).spoil() {
			t.Fatal(a, c)
		}
		if !same(h, was) || !slices.Equal(h.Cells[:cap(h.Cells)], spare) || !slices.Equal(args, argsWas) || !slices.Equal(l, codeWas) || !slices.Equal(a, aWas) || !slices.Equal(c.Head, cWas.Head) || !sameBody(c.Body, cWas.Body) {
			t.Fatal(h, was, args, l, a, c)
		}
		if !first.same(ran(h, args, l, len(l))) || !first.same(ran(was, argsWas, codeWas, len(l))) || !one.same(resolve(aWas, cWas, 300)) {
			t.Fatal(h, args, l, first)
		}
	}
}

// P3: with an error, too, the heap that is told is not the one that was handed in.
func TestOwnMemory(t *testing.T) {
	h := trailing(room(9, ref(1), num(1)), 0)
	l := compiled(t, clauseOf(t, "p(2)."))
	for steps := range 2 {
		r := ran(h, []int{0}, l, steps)
		if r.e == api.OK || !same(r.h, h) {
			t.Fatal(r)
		}
		r.spoil()
		if !same(h, trailing(room(9, ref(1), num(1)), 0)) {
			t.Fatal(h)
		}
	}
}

// P3: calls that run beside each other tell what they tell alone.
func TestBesideEachOther(t *testing.T) {
	from := seeded(18)
	h, args, c := from.started()
	l, err := code.Compile(c)
	if err != api.OK {
		t.Fatal(err)
	}
	alone, one := ran(h, args, l, len(l)), resolve(c.Head, c, 500)
	told := make(chan bool)
	for range 8 {
		go func() { told <- ran(h, args, l, len(l)).same(alone) && resolve(c.Head, c, 500).same(one) }()
	}
	for range 8 {
		if !<-told {
			t.Error("told otherwise")
		}
	}
}

// P3: an empty row and none are the same.
func TestEmpty(t *testing.T) {
	none, empty := room(5), api.Heap{Cells: []api.Slot{}, Trail: []int{}, Room: 5}
	l := compiled(t, clauseOf(t, "p :- q(1)."))
	if r := ran(none, nil, l, 9); r.e != api.OK || !r.same(ran(empty, []int{}, l, 9)) {
		t.Error(r)
	}
	if r := resolve(fun("p"), clause(fun("p")), 9); !r.same(resolve(fun("p"), api.Clause{Head: fun("p"), Body: []api.Lit{}}, 9)) || r.e != api.OK {
		t.Error(r)
	}
}
