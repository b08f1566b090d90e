package mach_test

import (
	"slices"
	"testing"

	"sorrel/api"
	"sorrel/code"
	"sorrel/heap"
	"sorrel/subst"
	"sorrel/term"
	"sorrel/unify"
)

// In this file what the chapter words is found a second time: K1 by terms that are put and made alike as layer 8
// says, one heap after the other, and K2 by layer 3, without a heap.

// state is what there is between two instructions.
type state struct {
	h     api.Heap
	at    []int // of each register its place
	next  int
	goals []api.Goal
}

// followed is where a place leads in the end.
func followed(h api.Heap, at int) int {
	for {
		s := h.Cells[at]
		if s.Tag == api.Num || s.Tag == api.Top || s.Tag == api.Ref && s.N == at {
			return at
		}
		at = s.N
	}
}

// made is the state in which a place is made alike with a term that has no variable but new ones of its own: what
// stands there is held against its first cell, and only in the place of a free variable the term is put.
func (s state) made(at int, t []api.Cell) (state, int, api.Errno) {
	at = followed(s.h, at)
	switch there, first := s.h.Cells[at], t[0]; {
	case there.Tag == api.Ref:
		g, place, _, e := heap.Put(s.h, t, nil)
		if e != api.OK {
			return s, 0, e
		}
		g, _ = heap.Unify(g, at, place)
		s.h = g
		return s, place, api.OK
	case there.Tag == api.Num && first.Kind == api.Int && there.N == first.N:
		return s, at, api.OK
	case there.Tag == api.Top && first.Kind == api.Fun && there.Name == first.Name && there.N == first.N:
		return s, at, api.OK
	}
	return s, 0, api.ErrNone
}

func (s state) joined(a int, b int) (state, api.Errno) {
	g, is := heap.Unify(s.h, a, b)
	if !is {
		return s, api.ErrNone
	}
	s.h = g
	return s, api.OK
}

// having is the state in which a register has a place.
func (s state) having(register int, at int) state {
	s.at = slices.Clone(s.at)
	s.at[register] = at
	return s
}

// filled is the state in which another slot stands at the next one.
func (s state) filled(slot api.Slot) state {
	s.h = cloned(s.h)
	s.h.Cells[s.next] = slot
	return s
}

// fresh is a Fun with new variables.
func fresh(name string, n int) []api.Cell {
	t := fun(name)
	t[0].N = n
	for i := range n {
		t = append(t, variable(i)...)
	}
	return t
}

// after is the state behind an instruction.
func (s state) after(i api.Instr) (state, api.Errno) {
	e := api.OK
	uni := func(s state) state {
		s.next++
		return s
	}
	switch i.Op {
	case api.GetVar:
		return s.having(i.X, s.at[i.A]), e
	case api.GetVal:
		return s.joined(s.at[i.X], s.at[i.A])
	case api.GetInt:
		s, _, e = s.made(s.at[i.A], number(i.N))
		return s, e
	case api.GetFun:
		s, at, e := s.made(s.at[i.A], fresh(i.Name, i.N))
		s.next = at + 1
		return s, e
	case api.UniVar, api.SetVar:
		return uni(s.having(i.X, s.next)), e
	case api.UniVal:
		s, e = s.joined(s.next, s.at[i.X])
		return uni(s), e
	case api.UniInt:
		s, _, e = s.made(s.next, number(i.N))
		return uni(s), e
	case api.PutFun:
		g, at, _, e := heap.Put(s.h, fresh(i.Name, i.N), nil)
		s.h, s.next = g, at+1
		return s.having(i.A, at), e
	case api.SetVal:
		to := s.at[i.X]
		if s.h.Cells[to].Tag == api.Top {
			return uni(s.filled(ptr(to))), e
		}
		return uni(s.filled(ref(to))), e
	case api.SetInt:
		return uni(s.filled(num(i.N))), e
	case api.Call:
		s.goals = append(slices.Clone(s.goals), api.Goal{Neg: i.Neg, At: s.at[i.A]})
	}
	return s, e
}

// reckoned is what K1 says.
func reckoned(h api.Heap, args []int, l []api.Instr, steps int) run {
	s := state{h: h, at: append(slices.Clone(args), make([]int, code.Regs(l))...)}
	for done, i := range l {
		if steps <= done {
			return run{h, nil, done, api.ErrSteps}
		}
		next, e := s.after(i)
		if e != api.OK {
			return run{h, nil, done, e}
		}
		s = next
	}
	return run{s.h, s.goals, len(l), api.OK}
}

// P11.1: Run tells what a second reckoning tells, on heaps of whatever form, in whatever room, with whatever steps.
func TestRunModel(t *testing.T) {
	from := seeded(1)
	count := map[api.Errno]int{}
	grown, bound := 0, 0
	for range 30000 {
		h, args, c := from.started()
		l := compiled(t, c)
		steps := len(l)
		switch from.IntN(6) {
		case 0:
			steps = from.IntN(len(l)+3) - 1
		case 1:
			h.Room = len(h.Cells) + from.IntN(20)
		}
		r := ran(h, args, l, steps)
		if want := reckoned(h, args, l, max(steps, 0)); !r.same(want) {
			t.Fatalf("%v %v %v %d\ntold   %v\nwanted %v", h, args, l, steps, r, want)
		}
		count[r.e]++
		if r.e == api.OK {
			grown, bound = max(grown, len(r.h.Cells)-len(h.Cells)), max(bound, len(r.h.Trail)-len(h.Trail))
		}
	}
	if len(count) != 4 || count[api.OK] < 8000 || count[api.ErrNone] < 8000 || count[api.ErrFull] < 500 || count[api.ErrSteps] < 1000 || grown < 40 || bound < 8 {
		t.Error("too few to tell:", count, grown, bound)
	}
}

// P11.1: so it does when one runs behind the other, on what has come by then, where goals are the next ones' atoms.
func TestRunsModel(t *testing.T) {
	from := seeded(2)
	went := 0
	for range 3000 {
		h, at, _, _ := heap.Put(heap.New(60+from.IntN(200)), from.atom("p", 3, 2, 4), nil)
		todo := []int{at}
		for range 12 {
			if len(todo) == 0 {
				break
			}
			at, todo = todo[0], todo[1:]
			s := h.Cells[at]
			row, is := heap.Get(h, at)
			c := from.clause(s.Name, s.N, 2)
			if is && from.IntN(6) > 0 {
				c.Head = from.like(term.Number(row))
			}
			var args []int
			for i := range s.N {
				args = append(args, at+1+i)
			}
			l := compiled(t, c)
			r := ran(h, args, l, len(l))
			if want := reckoned(h, args, l, len(l)); !r.same(want) {
				t.Fatalf("%v %v %v\ntold   %v\nwanted %v", h, args, l, r, want)
			}
			if r.e != api.OK {
				continue
			}
			went++
			h = r.h
			for _, g := range r.goals {
				todo = append(todo, g.At)
			}
		}
	}
	if went < 5000 {
		t.Error("too few to tell:", went)
	}
}

// byTerms is what P11.2 says of an atom and a clause, by layers 1 to 3 alone. The clause has other variables than
// the atom, so both together have not too many of them.
func byTerms(a []api.Cell, c api.Clause) resolved {
	a = term.Number(a)
	other := numbered(c, len(term.Vars(a)))
	if a[0] != c.Head[0] {
		return resolved{e: api.ErrNone}
	}
	s, e := unify.Mgu(a, other.Head)
	if e != api.OK {
		return resolved{e: e}
	}
	head, fits := subst.Apply(s, a)
	if !fits {
		return resolved{e: api.ErrBig}
	}
	all := clause(head)
	for _, x := range other.Body {
		t, fits := subst.Apply(s, x.T)
		if !fits {
			return resolved{e: api.ErrBig}
		}
		all.Body = append(all.Body, api.Lit{Neg: x.Neg, T: t})
	}
	all = numbered(all, 0)
	return resolved{all.Head, all.Body, api.OK}
}

// small are all terms of few cells over few variables.
func small(vars int) [][]api.Cell {
	l := [][]api.Cell{number(7), fun("a"), fun("f", number(7)), fun("f", fun("a")), fun("g", fun("a"))}
	for v := range vars {
		x := variable(v)
		l = append(l, x, fun("f", x), fun("f", fun("f", x)), fun("h", x, number(7)))
		for w := range vars {
			l = append(l, fun("h", x, variable(w)))
		}
	}
	return l
}

// P11.2, T2: of all small atoms and heads, Resolve tells what terms alone tell.
func TestResolveSmall(t *testing.T) {
	var count [2]int
	l := small(2)
	body := []api.Lit{is(fun("q", variable(0), variable(1), variable(2))), not(fun("r", fun("f", variable(1)), fun("h", variable(2), variable(0))))}
	for _, x := range l {
		for _, y := range l {
			a := fun("p", x, y)
			for _, v := range l {
				for _, w := range l {
					c := clause(fun("p", v, w), body...)
					r := resolve(a, c, 200)
					if want := byTerms(a, c); !r.same(want) {
						t.Fatalf("%v %v\ntold   %v\nwanted %v", a, c, r, want)
					}
					if r.e == api.OK {
						count[1]++
					} else {
						count[0]++
					}
				}
			}
		}
	}
	if min(count[0], count[1]) < 10000 {
		t.Error("too few to tell:", count)
	}
}

// P11.2, T2: so it does of seeded ones, in whatever room is enough.
func TestResolveModel(t *testing.T) {
	from := seeded(3)
	count := map[api.Errno]int{}
	long := 0
	for range 40000 {
		many := from.IntN(5)
		c := from.clause("p", many, 4)
		a := from.like(c.Head)
		if from.IntN(8) == 0 {
			a = from.atom("p", many, 2, 4)
		}
		r := resolve(a, c, 900)
		if want := byTerms(a, c); !r.same(want) {
			t.Fatalf("%v %v\ntold   %v\nwanted %v", a, c, r, want)
		}
		count[r.e]++
		long = max(long, len(r.t))
	}
	if min(count[api.OK], count[api.ErrNone]) < 8000 || long < 25 {
		t.Error("too few to tell:", count, long)
	}
}

// chained is an atom and a clause in which each variable stands for a Fun that has the next one so many times.
func (from source) chained() ([]api.Cell, api.Clause) {
	many := 2 + from.IntN(api.MaxArity-1)
	var atom, head [][]api.Cell
	for i := range many {
		x, next := variable(i), variable(i+1)
		if from.IntN(9) == 0 {
			next = variable(from.IntN(many))
		}
		f := fun("f", slices.Repeat([][]api.Cell{next}, 1+from.IntN(4))...)
		if from.coin() {
			x, f = f, x
		}
		atom, head = append(atom, x), append(head, f)
	}
	// The same variables on both sides make it one chain: they are told to be the same by one more argument each.
	join := func(l [][]api.Cell) []api.Cell {
		return fun("p", fun("k", l...), fun("k", variable(0), variable(1), variable(2)), fun("k", variable(3), variable(4), variable(5)))
	}
	last := many - from.IntN(2)
	return join(atom), clause(join(head), is(fun("q", variable(last))), not(fun("r", variable(0), variable(from.IntN(many)))))
}

// P11.2: and of such as get long, or too long, or would go round.
func TestResolveLong(t *testing.T) {
	from := seeded(4)
	count := map[api.Errno]int{}
	for range 8000 {
		a, c := from.chained()
		r := resolve(a, c, 900)
		if want := byTerms(a, c); !r.same(want) {
			t.Fatalf("%v %v\ntold   %v\nwanted %v", a, c, r, want)
		}
		count[r.e]++
	}
	if min(count[api.OK], count[api.ErrBig], count[api.ErrNone]) < 1000 {
		t.Error("too few to tell:", count)
	}
}
