package prog_test

import (
	"slices"
	"strings"
	"testing"

	"sorrel/api"
	"sorrel/prog"
)

// P7.1: the chapter's examples.
func TestExamples(t *testing.T) {
	l := program(t, `p(X) :- q(X), \+ r(X).`)
	if !prog.Right(l) || !prog.Safe(l[0]) || !slices.Equal(prog.Preds(l), []api.Pred{pred("p", 1), pred("q", 1), pred("r", 1)}) {
		t.Error(l)
	}
	wantLevels(t, l, 1, 0, 0)
	if l := program(t, `p(X) :- \+ r(X), q(X).`); prog.Right(l) || prog.Safe(l[0]) {
		t.Error(l)
	}
	wantNoLevels(t, program(t, `p :- \+ q. q :- \+ p.`))
}

// P7.1: the document's examples of the whole: which are safe, and which have levels.
func TestWholeExamples(t *testing.T) {
	l := program(t, `p(X) :- q(X, Y), \+ p(Y).`)
	if !prog.Right(l) {
		t.Error(l)
	}
	wantNoLevels(t, l)
	l = program(t, `r(X, Y) :- r(X, Z), s(Z, Y). r(X, Y) :- s(X, Y).`)
	if !prog.Right(l) {
		t.Error(l)
	}
	wantLevels(t, l, 0, 0)
	if l := program(t, `n(z). n(s(X)) :- n(X).`); !prog.Right(l) {
		t.Error(l)
	}
	if l := program(t, `p(X) :- \+ q(X).`); prog.Right(l) {
		t.Error(l)
	}
}

// P7.1: each variable of a negation must stand in a literal ahead of it, and each of the head in any, that is none.
func TestSafe(t *testing.T) {
	for s, want := range map[string]bool{
		`p.`:                                       true,
		`p(1, f(a)).`:                              true,
		`p(X).`:                                    false,
		`p(f(1, g(X))).`:                           false,
		`p :- q(X).`:                               true,
		`p(X) :- q(Y).`:                            false,
		`p(X) :- q(X).`:                            true,
		`p(X, X) :- q(f(1, [X])).`:                 true,
		`p(f(X), Y) :- q(X), r(Y).`:                true,
		`p(f(X), Y) :- q(X), q(X).`:                false,
		`p(X) :- \+ q(X).`:                         false,
		`p(X) :- \+ q(X), r(X).`:                   false,
		`p :- \+ q(X).`:                            false,
		`p :- \+ q(X), \+ q(X).`:                   false,
		`p :- q, \+ q(f(X)).`:                      false,
		`p :- \+ q(1).`:                            true,
		`p(X) :- \+ q, r(X).`:                      true,
		`p(X) :- \+ q(1, a), r(X).`:                true,
		`p(Y) :- q(X), \+ r(X), s(Y).`:             true,
		`p(Y) :- q(X), \+ r(X, Y), s(Y).`:          false,
		`p(Y) :- q(X), s(Y), \+ r(X, Y).`:          true,
		`p(Y) :- q(X), s(Y), \+ r(X, Y), \+ t(Z).`: false,
		`p(Y) :- q(X), s(Y), \+ r(f(Y, [X|Y])).`:   true,
		`p(X) :- q(X), \+ q(X).`:                   true,
		`p(X) :- p(X).`:                            true,
		`p :- \+ p.`:                               true,
		`X = Y :- q(X, Y), \+ X < Y.`:              true,
		`X = Y :- q(X), \+ X < Y.`:                 false,
	} {
		l := program(t, s)
		if prog.Safe(l[0]) != want || prog.Right(l) != want {
			t.Error(s, "wanted", want)
		}
	}
}

// P7.1: a clause may be up to its limits, and not above: rows are right, begin with a Fun, and are at most 8 literals.
func TestMay(t *testing.T) {
	a, wide := fun("a"), nest(api.MaxCells-1, number(api.MaxInt))
	args := slices.Repeat([][]api.Cell{variable(api.MaxVar)}, api.MaxArity)
	good := []api.Clause{
		clause(wide, is(wide), not(wide)),
		clause(fun("twelve_bytes", args...), is(fun("twelve bytes", args...)), not(fun("~", args...))),
		clause(a, slices.Repeat([]api.Lit{is(wide)}, api.MaxBody)...),
		clause(a, slices.Repeat([]api.Lit{not(a)}, api.MaxBody)...),
		{Head: a, Body: []api.Lit{}},
	}
	for _, c := range good {
		if !prog.Safe(c) || !prog.Right([]api.Clause{c, c}) {
			t.Error(c)
		}
	}
	for _, x := range [][]api.Cell{
		nil, {}, {{}}, {{Kind: 4, Name: "a"}}, variable(0), number(0), number(-1), fun(""), fun("'"), fun("\n"), fun("thirteenbytes"),
		fun("f", append(args, a)...), fun("f", variable(api.MaxVar+1)), fun("f", variable(-1)), fun("f", number(api.MaxInt+1)),
		fun("f", a)[:1], append(fun("a"), a...), nest(api.MaxCells, number(0)), {{Kind: api.Fun, Name: "a", N: -1}},
	} {
		// Nothing else is wrong with them: a variable would be bound.
		binds := is(fun("b", variable(0), variable(api.MaxVar)))
		for _, c := range []api.Clause{clause(x), clause(x, binds), clause(a, is(x)), clause(a, binds, not(x)), clause(a, binds, not(a), is(x)), clause(a, is(x), binds)} {
			if prog.Safe(c) || prog.Right([]api.Clause{c}) {
				t.Error(c)
			}
		}
	}
	for _, x := range []api.Lit{is(a), not(a)} {
		c := clause(a, slices.Repeat([]api.Lit{x}, api.MaxBody+1)...)
		if prog.Safe(c) || prog.Right([]api.Clause{c}) {
			t.Error("nine literals")
		}
	}
}

// P7.1: clauses are right, if there are at most 64, and each is safe.
func TestRight(t *testing.T) {
	good, bad := clause(fun("p")), clause(fun("p", variable(0)))
	if !prog.Right(nil) || !prog.Right([]api.Clause{}) || prog.Right([]api.Clause{{}}) {
		t.Error("none")
	}
	for n := 1; n <= api.MaxClauses+3; n++ {
		l := slices.Repeat([]api.Clause{good}, n)
		if prog.Right(l) != (n <= api.MaxClauses) {
			t.Error(n)
		}
		for at := range l {
			l[at] = bad
			if prog.Right(l) {
				t.Error(n, at)
			}
			l[at] = good
		}
	}
}

// P7.1: predicates rise by their names' bytes, then by how many arguments; what stands within an atom is none.
func TestPreds(t *testing.T) {
	l := program(t, `p(f(g), 'B'(1)) :- 'p '(X), \+ aa(X, Y), X = Y, a, [X|Y], aa. a(X) :- p(3), p(1, 2), []. b. '~' :- ' '. p.`)
	want := []api.Pred{pred(" "), pred(".", 2), pred("=", 2), pred("[]"), pred("a"), pred("a", 1), pred("aa"), pred("aa", 2), pred("b"), pred("p"), pred("p", 1), pred("p", 2), pred("p ", 1), pred("~")}
	if got := prog.Preds(l); !slices.Equal(got, want) {
		t.Error(got)
	}
	if got := prog.Preds(program(t, `'B'. a. 'Z'. aB. ab. b. a0. a_. '0'.`)); !slices.Equal(got, []api.Pred{pred("0"), pred("B"), pred("Z"), pred("a"), pred("a0"), pred("aB"), pred("a_"), pred("ab"), pred("b")}) {
		t.Error(got)
	}
	if len(prog.Preds(nil)) != 0 || len(prog.Preds([]api.Clause{})) != 0 {
		t.Error("none")
	}
}

// P7.1: a predicate's clauses are those of its heads alone, by name and arguments.
func TestOf(t *testing.T) {
	l := program(t, `p(1). q(X) :- p(X), r. p. p(X) :- q(X). q(1, 2). p(2).`)
	for p, want := range map[api.Pred][]int{
		pred("p", 1): {0, 3, 5}, pred("p"): {2}, pred("q", 1): {1}, pred("q", 2): {4}, pred("q"): {}, pred("r"): {},
		pred("p", 2): {}, pred(""): {}, pred("p", -1): {}, pred("P", 1): {}, pred("s"): {}, pred("p ", 1): {},
	} {
		if got := prog.Of(l, p); !slices.Equal(got, want) {
			t.Error(p, got)
		}
	}
	if len(prog.Of(nil, pred("p"))) != 0 {
		t.Error("none")
	}
}

// P7.1: links are by places in Preds, each once, and rise; a negation stands behind the same without one.
func TestLinks(t *testing.T) {
	l := program(t, `c :- b, \+ a, \+ b, c. b :- \+ c. c :- \+ a, a. a. c(1) :- c, c(1), \+ c(1), d.`)
	want := []api.Link{
		{From: 1, To: 2, Neg: true}, {From: 2, To: 0}, {From: 2, To: 0, Neg: true}, {From: 2, To: 1}, {From: 2, To: 1, Neg: true}, {From: 2, To: 2},
		{From: 3, To: 2}, {From: 3, To: 3}, {From: 3, To: 3, Neg: true}, {From: 3, To: 4},
	}
	if got := prog.Links(l); !slices.Equal(got, want) {
		t.Error(got)
	}
	if len(prog.Links(nil)) != 0 || len(prog.Links(program(t, `a. b. c(1).`))) != 0 {
		t.Error("none")
	}
	// What a name has as many arguments as is another predicate's link.
	if got := prog.Links(program(t, `p(X) :- p(X, X). p(X, Y) :- p(X), p(Y).`)); !slices.Equal(got, []api.Link{{From: 0, To: 1}, {From: 1, To: 0}}) {
		t.Error(got)
	}
}

// P7.1: levels are above those whose negation is leant on, not below others, and as low as may be.
func TestLevels(t *testing.T) {
	wantLevels(t, nil)
	wantLevels(t, []api.Clause{})
	wantLevels(t, program(t, `a.`), 0)
	wantLevels(t, program(t, `a :- \+ b.`), 1, 0)
	wantLevels(t, program(t, `b :- \+ a.`), 0, 1)
	wantLevels(t, program(t, `a :- b. b :- c. c :- a.`), 0, 0, 0)
	wantLevels(t, program(t, `a :- \+ b, \+ c, d. b :- \+ d. c :- b, a(1).`), 2, 0, 1, 1, 0)
	wantLevels(t, program(t, `a :- b. b :- a. b :- \+ c. d :- a, \+ e. e :- c.`), 1, 1, 0, 1, 0)
	wantLevels(t, program(t, `a :- \+ b. b :- c. c :- b. c :- \+ d. d :- e. e :- d. f :- c, \+ a.`), 2, 1, 1, 0, 0, 3)
	wantLevels(t, program(t, `a :- b, \+ b. b :- c, \+ c, c.`), 2, 1, 0)
	// The same name with other arguments is another predicate.
	wantLevels(t, program(t, `p :- \+ p(1). p(X) :- q(X), \+ p(X, X).`), 2, 1, 0, 0)
}

// P7.1, P7.4: there are no levels where negation goes round, wherever it stands on the way; else there are.
func TestNoLevels(t *testing.T) {
	for _, s := range []string{
		`a :- \+ a.`, `a. b :- b, \+ b.`, `p(X) :- q(X), \+ p(X).`,
		`a :- b. b :- \+ a.`, `a :- \+ b. b :- a.`, `a :- b. b :- c. c :- d. d :- \+ b.`,
		`a :- \+ b. b :- \+ c. c :- a.`, `a :- \+ c. b :- d. d :- e. e :- \+ f, d. f :- g, h. h :- e.`,
	} {
		wantNoLevels(t, program(t, s))
	}
	wantLevels(t, program(t, `a :- b. b :- a. c :- \+ a, \+ b. d :- c, \+ a. c :- d.`), 0, 0, 1, 1)
}

// P7.1: of however many clauses it is told.
func TestMany(t *testing.T) {
	const many = 5000
	var down, up, ring, flat []api.Clause
	wantDown, wantUp := make([]int, many+1), make([]int, many+1)
	for n := range many {
		down = append(down, leans(n, n+1, true))
		up = append(up, leans(n+1, n, true))
		flat = append(flat, leans(n, n+1, false))
		wantDown[n], wantUp[n+1] = many-n, n+1
	}
	ring = append(slices.Clone(flat), leans(many, 0, true))
	wantLevels(t, down, wantDown...)
	wantLevels(t, up, wantUp...)
	wantLevels(t, flat, make([]int, many+1)...)
	wantLevels(t, append(slices.Clone(flat), leans(many, 0, false)), make([]int, many+1)...)
	wantNoLevels(t, ring)
	wantNoLevels(t, append(down, leans(many, 0, true)))
	wantNoLevels(t, append(flat, leans(many, many, true)))
	if n := len(prog.Preds(ring)); n != many+1 {
		t.Error(n)
	}
	if n := len(prog.Links(ring)); n != many+1 {
		t.Error(n)
	}
	same := slices.Repeat([]api.Clause{leans(0, 1, true)}, many)
	if len(prog.Preds(same)) != 2 || len(prog.Links(same)) != 1 || len(prog.Of(same, pred(named(0)))) != many {
		t.Error("the same clause many times")
	}
	wantLevels(t, same, 1, 0)
}

// P1: of clauses that may not be nothing is said but by Safe and Right; their rows that are no atoms have no predicates.
func TestNotClauses(t *testing.T) {
	for _, x := range [][]api.Cell{nil, {}, variable(0), number(1), fun(""), fun("f", nil), append(fun("a"), fun("b")...), {{Kind: api.Fun, Name: "a", N: -1}}} {
		l := []api.Clause{clause(x, is(fun("a"))), clause(fun("b"), not(x)), clause(fun("c"), is(x), not(fun("b"))), {}}
		if got := prog.Preds(l); !slices.Equal(got, []api.Pred{pred("a"), pred("b"), pred("c")}) {
			t.Error(x, got)
		}
		if got := prog.Links(l); !slices.Equal(got, []api.Link{{From: 2, To: 1, Neg: true}}) {
			t.Error(x, got)
		}
		if got := prog.Of(l, pred("")); len(got) != 0 {
			t.Error(x, got)
		}
		wantLevels(t, l, 0, 0, 1)
	}
	nested := slices.Repeat([]api.Cell{{Kind: api.Fun, Name: "s", N: 1}}, 1<<20)
	for _, x := range [][]api.Cell{nested, append(nested, number(1)...), fun(strings.Repeat("a", 1<<20))} {
		if c := clause(x, not(x)); prog.Safe(c) || len(prog.Preds([]api.Clause{c})) != 0 {
			t.Error("too long")
		}
	}
	long := clause(fun("a"), slices.Repeat([]api.Lit{is(fun("b"))}, 1<<16)...)
	if prog.Safe(long) {
		t.Error("too many literals")
	}
}
