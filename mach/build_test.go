package mach_test

import (
	"math/rand/v2"
	"slices"
	"testing"

	"sorrel/api"
	"sorrel/code"
	"sorrel/heap"
	"sorrel/mach"
	"sorrel/read"
	"sorrel/term"
)

func variable(n int) []api.Cell { return []api.Cell{{Kind: api.Var, N: n}} }

func number(n int) []api.Cell { return []api.Cell{{Kind: api.Int, N: n}} }

func fun(name string, args ...[]api.Cell) []api.Cell {
	return append([]api.Cell{{Kind: api.Fun, Name: name, N: len(args)}}, slices.Concat(args...)...)
}

// nest is a term in as many Funs of one argument.
func nest(times int, t []api.Cell) []api.Cell {
	return append(slices.Repeat([]api.Cell{{Kind: api.Fun, Name: "s", N: 1}}, times), t...)
}

func is(t []api.Cell) api.Lit { return api.Lit{T: t} }

func not(t []api.Cell) api.Lit { return api.Lit{Neg: true, T: t} }

func clause(head []api.Cell, body ...api.Lit) api.Clause { return api.Clause{Head: head, Body: body} }

func ref(n int) api.Slot { return api.Slot{Tag: api.Ref, N: n} }

func num(n int) api.Slot { return api.Slot{Tag: api.Num, N: n} }

func ptr(n int) api.Slot { return api.Slot{Tag: api.Ptr, N: n} }

func top(name string, n int) api.Slot { return api.Slot{Tag: api.Top, Name: name, N: n} }

// room is a heap of some slots, with room for so many.
func room(many int, cells ...api.Slot) api.Heap { return api.Heap{Cells: cells, Room: many} }

// trailing is a heap with another trail.
func trailing(h api.Heap, trail ...int) api.Heap {
	h.Trail = trail
	return h
}

// more is a heap with other slots behind its own ones.
func more(h api.Heap, cells ...api.Slot) api.Heap {
	h.Cells = slices.Concat(h.Cells, cells)
	return h
}

// with is a heap with another slot at a place, that of a variable that is bound by that.
func with(h api.Heap, at int, to int) api.Heap {
	h = cloned(h)
	h.Cells[at].N = to
	h.Trail = append(h.Trail, at)
	return h
}

func same(a api.Heap, b api.Heap) bool {
	return slices.Equal(a.Cells, b.Cells) && slices.Equal(a.Trail, b.Trail) && a.Room == b.Room
}

// cloned is a heap that shares nothing with h.
func cloned(h api.Heap) api.Heap {
	return api.Heap{Cells: slices.Clone(h.Cells), Trail: slices.Clone(h.Trail), Room: h.Room}
}

func sameBody(a []api.Lit, b []api.Lit) bool {
	return slices.EqualFunc(a, b, func(x api.Lit, y api.Lit) bool { return x.Neg == y.Neg && slices.Equal(x.T, y.T) })
}

// copied is a clause that shares nothing with c.
func copied(c api.Clause) api.Clause {
	one := clause(slices.Clone(c.Head))
	for _, x := range c.Body {
		one.Body = append(one.Body, api.Lit{Neg: x.Neg, T: slices.Clone(x.T)})
	}
	return one
}

// renamed is a clause with other variables.
func renamed(c api.Clause, to func(n int) int) api.Clause {
	one := copied(c)
	rows := [][]api.Cell{one.Head}
	for _, x := range one.Body {
		rows = append(rows, x.T)
	}
	for _, t := range rows {
		for i := range t {
			if t[i].Kind == api.Var {
				t[i].N = to(t[i].N)
			}
		}
	}
	return one
}

// numbered is a clause whose variables go on from a number, as they first stand in its head, and then in its literals.
func numbered(c api.Clause, first int) api.Clause {
	var met []int
	return renamed(c, func(n int) int {
		if !slices.Contains(met, n) {
			met = append(met, n)
		}
		return first + slices.Index(met, n)
	})
}

// clauseOf is the clause of a text.
func clauseOf(t *testing.T, text string) api.Clause {
	t.Helper()
	l, _, e := read.Program(text)
	if e != api.OK || len(l) != 1 {
		t.Fatal(text, e)
	}
	return l[0]
}

// termOf is the term of a text.
func termOf(t *testing.T, text string) []api.Cell {
	t.Helper()
	row, _, _, e := read.Term(text)
	if e != api.OK {
		t.Fatal(text, e)
	}
	return row
}

// compiled is the code of a clause that may be.
func compiled(t *testing.T, c api.Clause) []api.Instr {
	t.Helper()
	l, e := code.Compile(c)
	if e != api.OK {
		t.Fatal(c, e)
	}
	return l
}

// run is what Run tells.
type run struct {
	h     api.Heap
	goals []api.Goal
	done  int
	e     api.Errno
}

func ran(h api.Heap, args []int, l []api.Instr, steps int) run {
	var r run
	r.h, r.goals, r.done, r.e = mach.Run(h, args, l, steps)
	return r
}

func (r run) same(o run) bool {
	return same(r.h, o.h) && slices.Equal(r.goals, o.goals) && r.done == o.done && r.e == o.e
}

// wantRun asks for all that comes of a clause's code on a heap, with as many steps as it has.
func wantRun(t *testing.T, h api.Heap, args []int, text string, want api.Heap, goals ...api.Goal) {
	t.Helper()
	l := compiled(t, clauseOf(t, text))
	if r := ran(h, args, l, len(l)); !r.same(run{want, goals, len(l), api.OK}) {
		t.Fatalf("of %s\ntold   %v\nwanted %v %v", text, r, want, goals)
	}
	if !heap.Right(h) || !heap.Right(want) {
		t.Fatal("not right", h, want)
	}
}

// wantNo asks for an error of a clause's code on a heap, behind so many instructions.
func wantNo(t *testing.T, h api.Heap, args []int, text string, done int, e api.Errno) {
	t.Helper()
	l := compiled(t, clauseOf(t, text))
	if r := ran(h, args, l, len(l)); !r.same(run{h, nil, done, e}) {
		t.Fatalf("of %s\ntold   %v\nwanted %d %v", text, r, done, e)
	}
	if !heap.Right(h) {
		t.Fatal("not right", h)
	}
}

// resolved is what Resolve tells.
type resolved struct {
	t    []api.Cell
	body []api.Lit
	e    api.Errno
}

func resolve(a []api.Cell, c api.Clause, room int) resolved {
	var r resolved
	r.t, r.body, r.e = mach.Resolve(a, c, room)
	return r
}

func (r resolved) same(o resolved) bool {
	return slices.Equal(r.t, o.t) && sameBody(r.body, o.body) && r.e == o.e
}

// wantResolved asks for what comes of an atom and a clause: a clause of what they are then.
func wantResolved(t *testing.T, a string, c string, want string) {
	t.Helper()
	to := clauseOf(t, want)
	if r := resolve(termOf(t, a), clauseOf(t, c), 400); !r.same(resolved{to.Head, to.Body, api.OK}) {
		t.Fatalf("of %s with %s told %v, wanted %s", a, c, r, want)
	}
}

// wantError asks for an error of an atom and a clause.
func wantError(t *testing.T, a []api.Cell, c api.Clause, room int, e api.Errno) {
	t.Helper()
	if r := resolve(a, c, room); !r.same(resolved{e: e}) {
		t.Fatalf("of %v with %v told %v, wanted %v", a, c, r, e)
	}
}

// source makes atoms, clauses and heaps from a fixed seed.
type source struct{ *rand.Rand }

func seeded(n uint64) source { return source{rand.New(rand.NewPCG(n, 103))} }

func (from source) just(l ...string) string { return l[from.IntN(len(l))] }

func (from source) coin() bool { return from.IntN(2) == 0 }

// term is a small one of few names and so many variables.
func (from source) term(deep int, vars int) []api.Cell {
	switch kind := from.IntN(7 + 3*deep); {
	case kind < 5:
		return variable(from.IntN(vars))
	case kind < 6:
		return number(from.IntN(3) - 1)
	case kind < 7 || deep == 0:
		return fun(from.just("a", "b"))
	}
	args := make([][]api.Cell, 1+from.IntN(3))
	for i := range args {
		args[i] = from.term(deep-1, vars)
	}
	return fun(from.just("f", "f", "g"), args...)
}

// atom is one of a name and so many arguments.
func (from source) atom(name string, many int, deep int, vars int) []api.Cell {
	args := make([][]api.Cell, many)
	for i := range args {
		args[i] = from.term(deep, vars)
	}
	return fun(name, args...)
}

// clause is one whose head has a name and so many arguments, with up to so many literals.
func (from source) clause(name string, many int, most int) api.Clause {
	vars := 1 + from.IntN(6)
	c := clause(from.atom(name, many, 2, vars))
	for range from.IntN(most + 1) {
		c.Body = append(c.Body, api.Lit{Neg: from.coin(), T: from.atom(from.just("p", "q", "r"), from.IntN(4), 2, vars)})
	}
	return c
}

// like is an atom with the same names, but for some terms: some are variables, some variables are terms.
func (from source) like(t []api.Cell) []api.Cell {
	var change func(t []api.Cell, deep int) []api.Cell
	change = func(t []api.Cell, deep int) []api.Cell {
		switch {
		case deep > 0 && from.IntN(6) == 0:
			return variable(from.IntN(5))
		case t[0].Kind == api.Var && from.coin():
			return from.term(2, 5)
		case t[0].Kind != api.Fun:
			return t
		}
		var args [][]api.Cell
		for _, part := range term.Parts(t) {
			args = append(args, change(part, deep+1))
		}
		return fun(t[0].Name, args...)
	}
	return change(t, 0)
}

// heap is a right one of some slots, that lead to each other in whatever way they may, ahead and back.
func (from source) heap(most int) api.Heap {
	h := api.Heap{Room: api.MaxRoom}
	for len(h.Cells) < most {
		at, own := len(h.Cells), from.IntN(4)
		if from.IntN(3) == 0 {
			h.Cells = append(h.Cells, ref(at))
			continue
		}
		h.Cells = append(h.Cells, top(from.just("f", "f", "g"), own))
		for i := range own {
			h.Cells = append(h.Cells, ref(at+1+i))
		}
	}
	for _, at := range from.Perm(len(h.Cells)) {
		if h.Cells[at].Tag == api.Ref {
			h.Cells[at] = from.slot(h, at)
		}
	}
	for _, at := range from.Perm(len(h.Cells)) {
		if s := h.Cells[at]; s.Tag == api.Ref && s.N != at && from.coin() {
			h.Trail = append(h.Trail, at)
		}
	}
	return h
}

// slot is what may stand at the place of a free variable.
func (from source) slot(h api.Heap, at int) api.Slot {
	to := from.IntN(len(h.Cells))
	s := ref(to)
	switch kind := from.IntN(10); {
	case kind < 2:
		return num(from.IntN(3) - 1)
	case kind > 6:
		return ref(at)
	case h.Cells[to].Tag == api.Top && from.coin():
		s = ptr(to)
	}
	g := cloned(h)
	g.Cells[at] = s
	if to == at || !heap.Right(g) {
		return ref(at)
	}
	return s
}

// places are so many places of a heap's slots.
func (from source) places(h api.Heap, many int) []int {
	l := make([]int, many)
	for i := range l {
		l[i] = from.IntN(len(h.Cells))
	}
	return l
}

// started is a right heap, places for arguments, and a clause with as many of them, whose head is often like
// what stands there.
func (from source) started() (api.Heap, []int, api.Clause) {
	many := from.IntN(5)
	if from.coin() {
		h := from.heap(2 + from.IntN(20))
		return h, from.places(h, many), from.clause("p", many, 4)
	}
	c := from.clause("p", many, 4)
	h, at, _, _ := heap.Put(heap.New(api.MaxRoom), from.like(c.Head), nil)
	if from.coin() {
		h, _ = heap.Unify(h, from.IntN(len(h.Cells)), from.IntN(len(h.Cells)))
	}
	var args []int
	for i := range many {
		args = append(args, at+1+i)
	}
	return h, args, c
}

// extreme is a number that is seldom a place, or a register.
func (from source) extreme() int {
	return []int{0, 0, 1, 2, 3, 4, 5, -1, -2, 7, 30, 1000, api.MaxInt, api.MaxInt + 1, -1 << 63, 1<<63 - 1}[from.IntN(16)]
}

// row is some numbers, whatever they are.
func (from source) row() []int {
	l := make([]int, from.IntN(5))
	for i := range l {
		l[i] = from.extreme()
	}
	return l
}

// wildHeap is a heap of any slots.
func (from source) wildHeap() api.Heap {
	h := api.Heap{Cells: make([]api.Slot, from.IntN(9)), Trail: from.row(), Room: from.extreme()}
	for i := range h.Cells {
		h.Cells[i] = api.Slot{Tag: from.IntN(6), Name: from.just("", "", "a", "thirteenbytes"), N: from.IntN(10) - 1}
		if from.IntN(4) == 0 {
			h.Cells[i].N = from.extreme()
		}
	}
	return h
}

// wildCode is a row of any instructions.
func (from source) wildCode() []api.Instr {
	l := make([]api.Instr, from.IntN(12))
	for i := range l {
		l[i] = api.Instr{
			Op: from.IntN(15), X: from.IntN(4), A: from.IntN(4), N: from.IntN(4), Neg: from.coin(),
			Name: from.just("", "a", "p", "it's", "thirteenbytes"),
		}
		switch from.IntN(8) {
		case 0:
			l[i].Op = from.extreme()
		case 1:
			l[i].X = from.extreme()
		case 2:
			l[i].A = from.extreme()
		case 3:
			l[i].N = from.extreme()
		}
	}
	return l
}

// wildTerm is a row of cells, whatever they are.
func (from source) wildTerm() []api.Cell {
	t := make([]api.Cell, from.IntN(4))
	for i := range t {
		t[i] = api.Cell{Kind: from.IntN(5), Name: from.just("", "", "p", "it's"), N: from.extreme()}
	}
	return t
}
