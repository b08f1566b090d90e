package mach_test

import (
	"slices"
	"strings"
	"testing"

	"sorrel/api"
	"sorrel/heap"
	"sorrel/prog"
)

// P11.1: the chapter's examples.
func TestExamples(t *testing.T) {
	wantResolved(t, "p(A, 7)", "p(X, X) :- q(X), \\+ r(Y, X).", "p(7, 7) :- q(7), \\+ r(A, 7).")
	wantError(t, termOf(t, "p(A, A)"), clauseOf(t, "p(X, f(X))."), 400, api.ErrNone)
	wantError(t, termOf(t, "p(a)"), clauseOf(t, "q(X)."), 400, api.ErrNone)
}

// P11.1: GetVar has an argument's place, whatever stands there; SetVal leads to it, by a Ptr just if it is a Top's.
func TestGetVar(t *testing.T) {
	for _, h := range []api.Heap{room(9, ref(0)), room(9, num(7)), room(9, ptr(1), top("a", 0)), room(9, ref(1), num(7)), room(9, ref(1), top("a", 0)), room(9, ref(1), ref(1))} {
		at := len(h.Cells)
		wantRun(t, h, []int{0}, "p(X) :- q(X).", more(h, top("q", 1), ref(0)), api.Goal{At: at})
	}
	h := room(9, top("a", 0))
	wantRun(t, h, []int{0}, "p(X) :- q(X).", more(h, top("q", 1), ptr(0)), api.Goal{At: 1})
	// Nothing of it is made alike: two arguments may be one place.
	h = room(9, ref(0), ref(1))
	wantRun(t, h, []int{1, 1}, "p(X, Y) :- q(Y, X).", more(h, top("q", 2), ref(1), ref(1)), api.Goal{At: 2})
}

// P11.1: GetVal is heap.Unify.
func TestGetVal(t *testing.T) {
	h := room(9, ref(0), ref(1))
	for _, args := range [][]int{{0, 1}, {1, 0}} {
		wantRun(t, h, args, "p(X, X).", with(h, 1, 0))
	}
	wantRun(t, h, []int{1, 1}, "p(X, X).", h)
	wantNo(t, room(9, num(7), num(8)), []int{0, 1}, "p(X, X).", 1, api.ErrNone)
	wantNo(t, room(9, num(7), top("a", 0)), []int{0, 1}, "p(X, X).", 1, api.ErrNone)
	// A variable within what it would stand for.
	wantNo(t, room(9, top("f", 1), ref(1)), []int{0, 1}, "p(X, X).", 1, api.ErrNone)
	h = room(9, top("f", 2), ref(1), ref(2), top("f", 2), num(3), ref(5))
	wantRun(t, h, []int{0, 3}, "p(X, X).", with(with(h, 1, 4), 5, 2))
	// What was bound ahead of an error is free again.
	h = room(9, top("f", 2), ref(1), num(1), top("f", 2), num(3), num(2))
	wantNo(t, h, []int{0, 3}, "p(X, X).", 1, api.ErrNone)
	h = room(9, ref(0), num(8))
	wantNo(t, h, []int{0, 0, 1}, "p(7, X, X).", 2, api.ErrNone)
}

// P11.1: GetInt makes a place a number.
func TestGetInt(t *testing.T) {
	h := room(9, ref(0))
	wantRun(t, h, []int{0}, "p(7).", with(more(h, num(7)), 0, 1))
	h = room(9, ref(1), ref(2), ref(2))
	wantRun(t, h, []int{0}, "p(-7).", with(more(h, num(-7)), 2, 3))
	// The same number stands there, or comes to stand there: none is put for it.
	for _, h := range []api.Heap{room(2, num(7), ref(0)), trailing(room(2, num(7), ref(0)), 1)} {
		wantRun(t, h, []int{0}, "p(7).", h)
		wantRun(t, h, []int{1}, "p(7).", h)
		wantRun(t, h, []int{1, 0, 1}, "p(7, 7, 7).", h)
	}
	h = room(2, ref(0))
	wantRun(t, h, []int{0, 0}, "p(7, 7).", with(more(h, num(7)), 0, 1))
	for _, h := range []api.Heap{room(9, num(8)), room(9, num(-7)), room(9, top("a", 0)), room(9, ptr(1), top("f", 1), num(7)), room(9, ref(1), num(0))} {
		wantNo(t, h, []int{0}, "p(7).", 0, api.ErrNone)
	}
	wantNo(t, room(9, ref(0)), []int{0, 0}, "p(7, 8).", 1, api.ErrNone)
	wantNo(t, room(1, ref(0)), []int{0}, "p(7).", 0, api.ErrFull)
	wantNo(t, room(1, num(8)), []int{0}, "p(7).", 0, api.ErrNone)
}

// P11.1: GetFun goes into a Top that stands there, or puts one where a variable is free.
func TestGetFun(t *testing.T) {
	h := room(9, ref(0))
	wantRun(t, h, []int{0}, "p(a).", with(more(h, top("a", 0)), 0, 1))
	wantRun(t, h, []int{0}, "p(f(X, Y)).", with(more(h, top("f", 2), ref(2), ref(3)), 0, 1))
	h = room(9, ref(2), num(1), ref(3), ref(3))
	wantRun(t, h, []int{0}, "p(f(X)).", with(more(h, top("f", 1), ref(5)), 3, 4))
	for _, h := range []api.Heap{room(4, top("f", 2), num(1), ref(2)), room(4, ptr(1), top("f", 2), ref(2), num(1)), room(4, ref(1), top("f", 2), ref(2), ref(3))} {
		wantRun(t, h, []int{0}, "p(f(X, Y)).", h)
	}
	for _, h := range []api.Heap{
		room(9, top("f", 1), num(1)), room(9, top("g", 2), num(1), num(2)), room(9, top("f", 3), num(1), num(1), num(1)), room(9, top("f", 0)),
		room(9, num(2)), room(9, ref(1), num(0)), room(9, ptr(1), top("ff", 2), num(1), num(1)), room(9, top("F", 2), num(1), num(1)),
	} {
		wantNo(t, h, []int{0}, "p(f(X, Y)).", 0, api.ErrNone)
	}
	// No room for the last one of a Top's slots, or for the Top.
	for _, many := range []int{1, 2, 3} {
		wantNo(t, room(many, ref(0)), []int{0}, "p(f(X, Y)).", 0, api.ErrFull)
	}
	h = room(4, ref(0))
	wantRun(t, h, []int{0}, "p(f(X, Y)).", with(more(h, top("f", 2), ref(2), ref(3)), 0, 1))
	wantNo(t, room(1, num(1)), []int{0}, "p(f(X, Y)).", 0, api.ErrNone)
}

// P11.1: UniVar, UniVal and UniInt take a Top's slots, one after the other.
func TestUni(t *testing.T) {
	h := room(20, top("f", 3), ref(1), num(7), ref(3))
	// Each register has its slot's place.
	wantRun(t, h, []int{0}, "p(f(X, Y, Z)) :- q(Z, Y, X).", more(h, top("q", 3), ref(3), ref(2), ref(1)), api.Goal{At: 4})
	wantRun(t, h, []int{0}, "p(f(X, Y, X)).", with(h, 3, 1))
	wantRun(t, h, []int{0}, "p(f(X, X, 7)).", with(with(more(h, num(7)), 1, 2), 3, 4))
	wantRun(t, h, []int{0}, "p(f(7, 7, Y)).", with(more(h, num(7)), 1, 4))
	wantNo(t, h, []int{0}, "p(f(7, 8, Y)).", 2, api.ErrNone)
	wantNo(t, more(h, num(8)), []int{0, 4}, "p(f(X, X, Y), X).", 4, api.ErrNone)
	full := more(h)
	full.Room = 4
	wantNo(t, full, []int{0}, "p(f(X, 7, 7)).", 3, api.ErrFull)
	wantRun(t, full, []int{0}, "p(f(X, 7, X)).", with(full, 3, 1))
	// A variable that becomes a Top with its own slot within.
	wantNo(t, room(9, ref(0)), []int{0, 0}, "p(X, f(X)).", 2, api.ErrNone)
	wantNo(t, room(9, ref(0)), []int{0, 0}, "p(f(X), X).", 2, api.ErrNone)
	// The next slot is one of the Top that came last, wherever that stands; Funs come behind the row.
	wantRun(t, room(20, ref(0)), []int{0}, "p(f(g(X), h(X))).", trailing(room(20, ref(1), top("f", 2), ref(4), ref(6), top("g", 1), ref(5), top("h", 1), ref(5)), 0, 2, 3, 7))
	wantRun(t, room(20, top("f", 2), ptr(5), ref(2), top("h", 1), num(1), top("g", 1), ref(6)), []int{0}, "p(f(g(X), h(X))).",
		trailing(room(20, top("f", 2), ptr(5), ref(7), top("h", 1), num(1), top("g", 1), ref(6), top("h", 1), ref(6)), 2, 8))
	wantRun(t, room(20, ptr(3), ptr(1+4), ref(2), top("f", 1), num(1), top("f", 1), ref(6)), []int{0, 1}, "p(f(X), f(X)).",
		with(room(20, ptr(3), ptr(5), ref(2), top("f", 1), num(1), top("f", 1), ref(6)), 6, 4))
}

// P11.1: PutFun puts a Top, whose slots SetVar, SetVal and SetInt tell.
func TestPut(t *testing.T) {
	// The Funs within stand ahead.
	wantRun(t, room(20), nil, "p :- q(X, X, f(Y), -7, a).",
		room(20, top("f", 1), ref(1), top("a", 0), top("q", 5), ref(4), ref(4), ptr(0), num(-7), ptr(2)), api.Goal{At: 3})
	wantRun(t, room(20), nil, "p :- q(f(X, g(X)), X).",
		room(20, top("g", 1), ref(1), top("f", 2), ref(1), ptr(0), top("q", 2), ptr(2), ref(1)), api.Goal{At: 5})
	// What a register has is led to, not what that leads to.
	h := trailing(room(20, ref(1), ref(2), top("a", 0), ptr(2)), 0)
	wantRun(t, h, []int{0, 1, 2, 3}, "p(X, Y, Z, W) :- q(X, Y, Z, W).", more(h, top("q", 4), ref(0), ref(1), ptr(2), ref(3)), api.Goal{At: 4})
	// A structure's slots are not bound: nothing of them is in the trail.
	h = room(20, ref(0))
	wantRun(t, h, []int{0}, "p(f(X)) :- q(X, Y), r(Y).",
		trailing(room(20, ref(1), top("f", 1), ref(2), top("q", 2), ref(2), ref(5), top("r", 1), ref(5)), 0), api.Goal{At: 3}, api.Goal{At: 6})
	for many, done := range map[int]int{0: 0, 1: 0, 2: 3, 3: 3, 4: 3, 5: 3} {
		wantNo(t, room(many+4, num(1), num(2), num(3), num(4)), nil, "p :- q(X), r(X, Y, 7).", done, api.ErrFull)
	}
	full := room(10, num(1), num(2), num(3), num(4))
	wantRun(t, full, nil, "p :- q(X), r(X, Y, 7).", more(full, top("q", 1), ref(5), top("r", 3), ref(5), ref(8), num(7)), api.Goal{At: 4}, api.Goal{At: 6})
}

// P11.1: each Call is a goal; a negative one is so.
func TestCall(t *testing.T) {
	wantRun(t, room(20), nil, "p.", room(20))
	wantRun(t, room(20), nil, "p :- q, \\+ r, \\+ q, q(1).", room(20, top("q", 0), top("r", 0), top("q", 0), top("q", 1), num(1)),
		api.Goal{At: 0}, api.Goal{Neg: true, At: 1}, api.Goal{Neg: true, At: 2}, api.Goal{At: 3})
	// Arguments that no instruction asks of, and slots that nothing leads to, stay.
	h := trailing(room(20, ref(1), num(1), ref(2), num(3)), 0)
	wantRun(t, h, []int{3, 2, 0}, "p(X, Y, Z).", h)
}

// P11.1: as many steps as there are instructions are enough; with fewer ones that is told, ahead of what the next one would tell.
func TestSteps(t *testing.T) {
	h := room(40, ref(0), ref(1), num(7))
	l := compiled(t, clauseOf(t, "p(f(X, g(X)), X, 7) :- q(X, Y), \\+ r(s(Y))."))
	whole := ran(h, []int{0, 1, 2}, l, len(l))
	if whole.e != api.OK || whole.done != len(l) || len(whole.goals) != 2 {
		t.Fatal(whole)
	}
	for steps := -3; steps < len(l)+3; steps++ {
		want := whole
		if steps < len(l) {
			want = run{h, nil, max(steps, 0), api.ErrSteps}
		}
		if r := ran(h, []int{0, 1, 2}, l, steps); !r.same(want) {
			t.Error(steps, r)
		}
	}
	for _, steps := range []int{1<<63 - 1, api.MaxInt} {
		if r := ran(h, []int{0, 1, 2}, l, steps); !r.same(whole) {
			t.Error(steps, r)
		}
	}
	if r := ran(h, []int{0, 1, 2}, l, -1<<63); !r.same(run{h, nil, 0, api.ErrSteps}) {
		t.Error(r)
	}
	for text, e := range map[string]api.Errno{"p(7, 8).": api.ErrNone, "p(7, f(X)).": api.ErrFull} {
		h := room(2, num(7), ref(1))
		args, l := []int{0, 1}, compiled(t, clauseOf(t, text))
		if e == api.ErrNone {
			args = []int{0, 0}
		}
		for steps, want := range []run{{h, nil, 0, api.ErrSteps}, {h, nil, 1, api.ErrSteps}, {h, nil, 1, e}, {h, nil, 1, e}} {
			if r := ran(h, args, l, steps); !r.same(want) {
				t.Error(text, steps, r)
			}
		}
	}
}

// P11.1: atoms and clauses, and what comes of them.
func TestResolve(t *testing.T) {
	for _, x := range [][3]string{
		{"p", "p.", "p."},
		{"p", "p :- \\+ q, p.", "p :- \\+ q, p."},
		{"p(A, A)", "p(X, Y) :- q(Y, X).", "p(A, A) :- q(A, A)."},
		{"p(B, A)", "p(X, f(Y)) :- q(Y, X).", "p(A, f(B)) :- q(B, A)."},
		{"p(f(A, B), B)", "p(f(X, X), g(Y)) :- q(X, Z).", "p(f(g(A), g(A)), g(A)) :- q(g(A), B)."},
		{"p(A, B, C)", "p(B, C, A) :- q(A, B, C).", "p(A, B, C) :- q(C, A, B)."},
		{"p(7, A)", "p(X, X) :- q(X, 8).", "p(7, 7) :- q(7, 8)."},
		{"p(A, f(7))", "p(X, X) :- \\+ q(X, Y, Z, Y).", "p(f(7), f(7)) :- \\+ q(f(7), A, B, A)."},
		{"p(f(f(f(A))))", "p(f(f(X))) :- p(X).", "p(f(f(f(A)))) :- p(f(A))."},
		{"p([1, 2|A], B, C)", "p([X|Y], Z, [X|W]) :- p(Y, Z, W).", "p([1, 2|A], B, [1|C]) :- p([2|A], B, C)."},
		// Variables are numbered in the atom first, whether or not the body has them.
		{"p(A, B)", "p(X, Y) :- q(Z, Y, Z).", "p(A, B) :- q(C, B, C)."},
		{"p(C, B, A)", "p(X, Y, Z) :- q(Z), r(Y, W), s(W, V, X).", "p(A, B, C) :- q(C), r(B, D), s(D, E, A)."},
	} {
		wantResolved(t, x[0], x[1], x[2])
	}
	for _, x := range [][2]string{
		{"p", "q."}, {"p", "p(1)."}, {"p(1)", "p."}, {"p(A)", "p(A, A)."}, {"p(A)", "pp(A)."}, {"p(1)", "p(2)."}, {"p(1)", "p(a)."}, {"p(a)", "p(1)."},
		{"p(a)", "p(b)."}, {"p(f(1))", "p(f(1, 1))."}, {"p(f(1))", "p(g(1))."}, {"p(1, 2)", "p(X, X)."}, {"p(X, f(X))", "p(X, X)."}, {"p(X, X)", "p(f(Y), Y)."},
		{"p(X, Y, X)", "p(f(A), A, B, A)."}, {"p(f(X, Y), f(Y, X))", "p(Z, f(g(Z), W))."}, {"p(A, B)", "p(f(X), X, Y) :- q."},
	} {
		wantError(t, termOf(t, x[0]), clauseOf(t, x[1]), 400, api.ErrNone)
	}
}

// P11.1: a room is enough or is not; of an atom that is none of the clause's, it plays no part.
func TestRoom(t *testing.T) {
	for _, x := range []struct {
		a, c string
		need int
	}{
		{"p", "p.", 1}, {"p(A, 7)", "p(X, Y).", 3}, {"p(A, 7)", "p(X, X) :- q(X).", 5}, {"p(A)", "p(7).", 3}, {"p(A)", "p(f(X, 7)).", 6},
		{"p(f(A))", "p(X).", 4}, {"p(f(A))", "p(f(X)) :- \\+ q(X), r.", 7},
	} {
		a, c := termOf(t, x.a), clauseOf(t, x.c)
		whole := resolve(a, c, api.MaxRoom)
		if whole.e != api.OK {
			t.Fatal(x)
		}
		for many := 1; many < x.need+4; many++ {
			if many < x.need {
				wantError(t, a, c, many, api.ErrFull)
			} else if r := resolve(a, c, many); !r.same(whole) {
				t.Error(x, many, r)
			}
		}
	}
	// What is told first is what comes first.
	wantError(t, termOf(t, "p(1, 2, 3)"), clauseOf(t, "q(X)."), 1, api.ErrNone)
	wantError(t, termOf(t, "p(1, 2, 3)"), clauseOf(t, "p(X, X, X)."), 3, api.ErrFull)
	wantError(t, termOf(t, "p(1, 2, 3)"), clauseOf(t, "p(X, X, X)."), 4, api.ErrNone)
	wantError(t, termOf(t, "p(1, A)"), clauseOf(t, "p(2, f(X))."), 3, api.ErrNone)
	wantError(t, termOf(t, "p(A, 1)"), clauseOf(t, "p(f(X), 2)."), 3, api.ErrFull)
}

// P11.1: of terms that are not to be got ErrBig is told: of more than 200 cells, or with a variable's place above 999.
func TestBig(t *testing.T) {
	x, y := variable(0), variable(1)
	// The atom itself.
	c := clause(fun("p", nest(97, variable(2)), y), is(fun("q", y)))
	if r := resolve(fun("p", x, nest(100, x)), clause(c.Head), 4000); r.e != api.ErrBig {
		t.Error(r)
	}
	if r := resolve(fun("p", x, x), c, 4000); !r.same(resolved{fun("p", nest(97, x), nest(97, x)), []api.Lit{is(fun("q", nest(97, x)))}, api.OK}) {
		t.Error(r)
	}
	c = clause(fun("p", nest(98, x), nest(98, y)))
	wantOnly(t, fun("p", x, x), c, fun("p", nest(98, x), nest(98, x)))
	wantOnly(t, fun("p", x, fun("s", y)), c, fun("p", nest(98, x), nest(98, y)))
	wantOnly(t, fun("p", x, fun("s", x)), c, fun("p", nest(98, x), nest(99, x)))
	wantError(t, fun("p", x, x), clause(fun("p", nest(99, x), y)), 4000, api.ErrBig)
	wantError(t, fun("p", x, fun("s", x)), clause(fun("p", nest(99, x), nest(2, y))), 4000, api.ErrBig)
	// A literal, though there is nothing of it in the atom.
	long := fun("p", nest(65, number(7)))
	if r := resolve(long, clause(fun("p", x), is(fun("q", x, x, x, number(1))), not(fun("r"))), 4000); r.e != api.OK || len(r.body[0].T) != api.MaxCells {
		t.Error(r)
	}
	wantError(t, long, clause(fun("p", x), is(fun("q", x, x, x, number(1), number(1))), not(fun("r"))), 4000, api.ErrBig)
	wantError(t, long, clause(fun("p", x), is(fun("r")), not(fun("q", x, x, x, number(1), number(1)))), 4000, api.ErrBig)
	wantError(t, long, clause(fun("p", x), is(fun("q", x, x, x, x))), 4000, api.ErrBig)
	// A variable that stands at the place 999, and one behind it. Literals ahead of it take two slots a Fun.
	a := is(nest(199, number(1)))
	for last, e := range map[int]api.Errno{100: api.OK, 101: api.ErrBig} {
		c := clause(fun("p", number(1)), a, a, is(nest(last, number(1))), is(fun("q", y)))
		r := resolve(fun("p", number(1)), c, api.MaxRoom)
		if r.e != e || e == api.OK && !slices.Equal(r.body[3].T, fun("q", x)) || e != api.OK && len(r.t)+len(r.body) > 0 {
			t.Error(last, r)
		}
	}
	// It counts where the variable stands, not where what leads to it does.
	c = clause(fun("p", x), a, a, a, is(fun("q", x)))
	if r := resolve(fun("p", variable(5)), c, api.MaxRoom); r.e != api.OK || !slices.Equal(r.body[3].T, fun("q", x)) {
		t.Error(r)
	}
}

// wantOnly asks for what comes of an atom and a clause without literals.
func wantOnly(t *testing.T, a []api.Cell, c api.Clause, want []api.Cell) {
	t.Helper()
	if r := resolve(a, c, api.MaxRoom); !r.same(resolved{t: want}) {
		t.Fatal(a, c, r)
	}
}

// P11.1: the edges of what may be.
func TestEdges(t *testing.T) {
	for _, n := range []int{api.MaxInt, -api.MaxInt, 0} {
		wantOnly(t, fun("p", number(n), fun("f", variable(0))), clause(fun("p", variable(0), fun("f", number(n)))), fun("p", number(n), fun("f", number(n))))
		wantError(t, fun("p", number(n), fun("f", variable(0))), clause(fun("p", number(n/2+1), fun("f", number(n)))), 400, api.ErrNone)
	}
	long := strings.Repeat("~", api.MaxName)
	wantOnly(t, fun(long, fun(long)), clause(fun(long, variable(api.MaxVar))), fun(long, fun(long)))
	wantError(t, fun(long, fun(long)), clause(fun(long, fun(long[1:]))), 400, api.ErrNone)
	wantError(t, fun(long, fun(long)), clause(fun(long[1:], fun(long))), 400, api.ErrNone)
	var six [][]api.Cell
	for i := range api.MaxArity {
		six = append(six, variable(api.MaxVar-i))
	}
	turned := slices.Clone(six)
	slices.Reverse(turned)
	c := clause(fun("p", six...), slices.Repeat([]api.Lit{not(fun("q", turned...))}, api.MaxBody)...)
	want := numbered(c, 0)
	if r := resolve(c.Head, c, api.MaxRoom); !r.same(resolved{want.Head, want.Body, api.OK}) {
		t.Error(r)
	}
	wide := fun("p", slices.Repeat([][]api.Cell{fun("f", slices.Repeat([][]api.Cell{fun("g", number(1), number(2), number(3), number(4))}, 5)...), fun("a")}, 3)...)
	wantOnly(t, wide, clause(fun("p", turned...)), wide)
	// The longest of all: each atom has 200 cells, all of them Funs but one.
	deep := nest(api.MaxCells-1, number(1))
	c = clause(deep, slices.Repeat([]api.Lit{is(deep)}, api.MaxBody)...)
	if r := resolve(nest(api.MaxCells-1, number(1)), c, api.MaxRoom); !r.same(resolved{deep, c.Body, api.OK}) {
		t.Error(r)
	}
	need := (1 + api.MaxBody) * 2 * (api.MaxCells - 1)
	wantError(t, deep, c, need-1, api.ErrFull)
	if r := resolve(deep, c, need); r.e != api.OK {
		t.Error(r)
	}
}

// P11.1: clauses need not be safe, just such as may be.
func TestUnsafe(t *testing.T) {
	c := clauseOf(t, "p(X) :- \\+ q(Y).")
	if prog.Safe(c) {
		t.Fatal(c)
	}
	wantResolved(t, "p(1)", "p(X) :- \\+ q(Y).", "p(1) :- \\+ q(A).")
}

// P11.1: what came of one clause on a heap, its goals' slots are resolved with the next ones, and so on.
func TestOnAndOn(t *testing.T) {
	h, at, _, _ := heap.Put(heap.New(200), termOf(t, "app([1, 2], [3], X)"), nil)
	l := compiled(t, clauseOf(t, "app([X|Y], Z, [X|W]) :- app(Y, Z, W)."))
	end := compiled(t, clauseOf(t, "app([], X, X)."))
	now := at
	for range 2 {
		if r := ran(h, []int{now + 1, now + 2, now + 3}, end, 9); r.e != api.ErrNone {
			t.Fatal(r)
		}
		r := ran(h, []int{now + 1, now + 2, now + 3}, l, 99)
		if r.e != api.OK || len(r.goals) != 1 || !heap.Right(r.h) {
			t.Fatal(r)
		}
		h, now = r.h, r.goals[0].At
	}
	if r := ran(h, []int{now + 1, now + 2, now + 3}, l, 99); r.e != api.ErrNone {
		t.Fatal(r)
	}
	r := ran(h, []int{now + 1, now + 2, now + 3}, end, 9)
	if got, is := heap.Get(r.h, at); r.e != api.OK || !is || !slices.Equal(got, termOf(t, "app([1, 2], [3], [1, 2, 3])")) {
		t.Fatal(r)
	}
}
