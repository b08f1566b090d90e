package facts_test

import (
	"slices"
	"testing"

	"sorrel/api"
	"sorrel/facts"
)

// The chapter's examples.
func TestExamples(t *testing.T) {
	l := row(t, terms(t, "q(a, a)", "p(b)", "p(a)")...)
	want(t, facts.Find(l, term(t, "p(A)")), terms(t, "p(a)", "p(b)")...)
	want(t, facts.Find(l, term(t, "q(A, A)")), terms(t, "q(a, a)")...)
	if m, e := facts.Add(nil, term(t, "p(A)")); e != api.ErrFact || len(m) > 0 {
		t.Error(m, e)
	}
}

// P12.1, L1: what is a fact, and what is none.
func TestFact(t *testing.T) {
	for _, s := range []string{"p", "p(1)", "p(-2147483647)", "p(2147483647)", "p(a, b, c, d, e, f)", "p(q(r), [1, 2])", "'A name here'", "f(f(f(f(f(f(f(f(f(f(f(1)))))))))))", "- 1 + 2", "twelve_bytes"} {
		if !facts.Fact(term(t, s)) {
			t.Error(s)
		}
	}
	for _, s := range []string{"X", "7", "p(X)", "p(a, f(g(X)))", "[1, 2|X]", "f(f(f(f(f(f(f(f(f(f(f(f(1))))))))))))"} {
		if facts.Fact(term(t, s)) {
			t.Error(s)
		}
	}
	for _, x := range [][]api.Cell{nil, {}, {{}}, fun(""), fun("it's"), fun("thirteen_byte"), fun("a\n"), fun("p", number(api.MaxInt+1)), fun("p", number(-api.MaxInt-1)), fun("p", variable(1000)), fun("p", fun("f", variable(-1))), fun("p", slices.Repeat([][]api.Cell{number(1)}, 7)...), append(fun("p"), number(1)...), fun("p", number(1))[:1], {{Kind: api.Fun, Name: "p", N: -1}}, {{Kind: 4, Name: "p"}}, fun("p", []api.Cell{{Kind: api.Int, Name: "a", N: 1}})} {
		if facts.Fact(x) {
			t.Error(x)
		}
	}
}

// P12.1, L1: a fact is at most 12 deep, whichever argument is, and of at most 200 cells.
func TestFactEdges(t *testing.T) {
	for deep := range 16 {
		for _, x := range [][]api.Cell{nest(deep, fun("a")), nest(deep, fun("f", number(1), number(2)))[:deep+3], fun("f", nest(deep, number(1)), fun("a")), fun("f", fun("a"), nest(deep, number(1)))} {
			most := 11
			if x[len(x)-1].Kind == api.Int || x[0].Name == "f" {
				most = 10
			}
			if facts.Fact(x) != (deep <= most) {
				t.Error(deep, x)
			}
		}
	}
	for _, cells := range []int{199, 200, 201, 202} {
		x := wide(cells)
		if len(x) != cells || facts.Fact(x) != (cells <= 200) {
			t.Error(len(x), cells)
		}
	}
}

// P12.1, L1: the order of a row is by Kind, N and Name of the first cells that are unlike.
func TestOrder(t *testing.T) {
	l := terms(t, "'B'", "a", "aa", "b", "'Z'(-1)", "p(-1)", "p(0)", "p(10)", "p(a)", "p(b)", "p(f(a))", "p(f(b))", "p(f(a, a))", "q(1)", "a(1, 2)", "b(1, 1)")
	if !facts.Right(l) {
		t.Fatal(l)
	}
	want(t, row(t, seeded(5).shuffled(l)...), l...)
	for i := range l {
		for k := range i {
			if facts.Right([][]api.Cell{l[i], l[k]}) || !facts.Right([][]api.Cell{l[k], l[i]}) {
				t.Error(l[i], l[k])
			}
		}
		if facts.Right([][]api.Cell{l[i], l[i]}) {
			t.Error(l[i])
		}
	}
}

// P12.1, L1: one row that is no fact, or stands where it may not, wherever it is, and the row may not be.
func TestRight(t *testing.T) {
	l := terms(t, "a", "b", "p(1)", "p(2)", "p(3)", "q(1, 1)")
	if !facts.Right(l) || !facts.Right(nil) || !facts.Right([][]api.Cell{}) {
		t.Fatal("may be")
	}
	for i := range l {
		for _, bad := range [][]api.Cell{nil, number(1), variable(0), fun("p", variable(1)), fun("q", number(1))[:1], l[(i+1)%len(l)]} {
			m := slices.Clone(l)
			if m[i] = bad; facts.Right(m) {
				t.Error(m)
			}
		}
		if facts.Right(slices.Insert(slices.Clone(l), i, l[i])) {
			t.Error("twice", l[i])
		}
	}
	if facts.Right([][]api.Cell{nil}) || facts.Right([][]api.Cell{{{}}}) {
		t.Error("no fact")
	}
}

// P12.1: a row has at most 512 facts.
func TestFull(t *testing.T) {
	l := numbered(513)
	if facts.Right(l) || !facts.Right(l[:512]) || !facts.Right(l[1:]) {
		t.Fatal("right")
	}
	full := l[:512]
	for _, x := range [][]api.Cell{l[512], fun("a"), fun("p", number(-1)), fun("z", number(1), number(1))} {
		if m, e := facts.Add(full, x); e != api.ErrBig || len(m) > 0 {
			t.Error(x, len(m), e)
		}
		if m, e := facts.Drop(full, x); e != api.ErrNone || len(m) > 0 {
			t.Error(x, len(m), e)
		}
		m, e := facts.Add(l[:511], x)
		if (e != api.OK || len(m) != 512 || !facts.Right(m)) && !slices.Equal(x, l[511]) {
			t.Error(x, len(m), e)
		}
	}
	for _, x := range [][]api.Cell{l[0], l[300], l[511]} {
		if m, e := facts.Add(full, x); e != api.OK || !same(m, full) {
			t.Error(x, len(m), e)
		}
		if m, e := facts.Drop(full, x); e != api.OK || len(m) != 511 || facts.Has(m, x) {
			t.Error(x, len(m), e)
		}
	}
	// What is no fact tells so ahead of there being no room.
	if m, e := facts.Add(full, variable(0)); e != api.ErrFact || len(m) > 0 {
		t.Error(m, e)
	}
	if got := facts.Find(full, fun("p", variable(3))); !same(got, full) {
		t.Error(len(got))
	}
	more, less := facts.Diff(full, l[1:])
	want(t, more, l[512])
	want(t, less, l[0])
}

// P12.1, L2: just the same cells are had.
func TestHas(t *testing.T) {
	l := row(t, terms(t, "p(1)", "p(3)", "p(f(a))", "q(1, 2)", "b")...)
	for _, x := range l {
		if !facts.Has(l, x) || facts.Has(nil, x) {
			t.Error(x)
		}
	}
	for _, s := range []string{"p", "p(0)", "p(2)", "p(4)", "p(X)", "X", "1", "a", "c", "q(1)", "q(2, 1)", "q(1, 2, 3)", "p(f(b))", "p(f(X))"} {
		if facts.Has(l, term(t, s)) {
			t.Error(s)
		}
	}
	for _, x := range [][]api.Cell{nil, {{}}, l[1][:1], append(slices.Clone(l[0]), number(1)...), {{Kind: -9}}, {{Kind: 9, N: 1 << 62}}} {
		if facts.Has(l, x) || facts.Has(nil, x) {
			t.Error(x)
		}
	}
}

// P12.1, L3: what is added goes to its place, what is dropped is taken from there.
func TestPlaces(t *testing.T) {
	l := terms(t, "b", "d", "p(1)", "p(3)", "q(1, 1)")
	for at, s := range []string{"a", "c", "e", "p(2)", "p(a)", "q(1, 2)"} {
		x := term(t, s)
		with := slices.Insert(slices.Clone(l), at, x)
		m, e := facts.Add(l, x)
		if e != api.OK {
			t.Fatal(s, e)
		}
		want(t, m, with...)
		back, e := facts.Drop(m, x)
		if e != api.OK {
			t.Fatal(s, e)
		}
		want(t, back, l...)
		if none, e := facts.Drop(l, x); e != api.ErrNone || len(none) > 0 {
			t.Error(s, none, e)
		}
	}
	for at, x := range l {
		m, e := facts.Drop(l, x)
		if e != api.OK {
			t.Fatal(x, e)
		}
		want(t, m, slices.Delete(slices.Clone(l), at, at+1)...)
	}
	if m, e := facts.Drop(terms(t, "a"), term(t, "a")); e != api.OK || len(m) > 0 {
		t.Error(m, e)
	}
	if m, e := facts.Drop(nil, term(t, "a")); e != api.ErrNone || len(m) > 0 {
		t.Error(m, e)
	}
}

// P12.1, L4: what a call matches, and in which order it is told.
func TestFind(t *testing.T) {
	l := row(t, terms(t, "p(1)", "p(a)", "p(f(a))", "p(f(f(a)))", "q(a, a)", "q(a, b)", "q(b, a)", "q(f(a), a)", "q(f(a), f(a))", "q(g(a, a), g(a, a))", "q(g(a, b), g(b, a))", "p", "q(1)")...)
	for s, found := range map[string][]string{
		"p":                      {"p"},
		"p(X)":                   {"p(1)", "p(a)", "p(f(a))", "p(f(f(a)))"},
		"p(a)":                   {"p(a)"},
		"p(f(X))":                {"p(f(a))", "p(f(f(a)))"},
		"p(f(f(X)))":             {"p(f(f(a)))"},
		"p(2)":                   nil,
		"q(X)":                   {"q(1)"},
		"q(X, Y)":                {"q(a, a)", "q(a, b)", "q(b, a)", "q(f(a), a)", "q(f(a), f(a))", "q(g(a, a), g(a, a))", "q(g(a, b), g(b, a))"},
		"q(X, X)":                {"q(a, a)", "q(f(a), f(a))", "q(g(a, a), g(a, a))"},
		"q(X, a)":                {"q(a, a)", "q(b, a)", "q(f(a), a)"},
		"q(f(X), X)":             {"q(f(a), a)"},
		"q(X, f(X))":             nil,
		"q(g(X, Y), g(Y, X))":    {"q(g(a, a), g(a, a))", "q(g(a, b), g(b, a))"},
		"q(X, Y, Z)":             nil,
		"r(X)":                   nil,
		"q(a, f(f(f(f(f(a))))))": nil,
	} {
		t.Run(s, func(t *testing.T) {
			want(t, facts.Find(l, term(t, s)), row(t, terms(t, found...)...)...)
			want(t, facts.Find(nil, term(t, s)))
		})
	}
	// A variable's number plays no part, nor does a call that is deeper than a fact may be.
	want(t, facts.Find(l, fun("p", fun("f", variable(999)))), terms(t, "p(f(a))", "p(f(f(a)))")...)
	want(t, facts.Find(l, nest(100, variable(0))))
}

// P12.1, L5: what came is told ahead of what went.
func TestDiff(t *testing.T) {
	a, b := terms(t, "a", "c", "p(1)", "p(2)"), terms(t, "b", "c", "p(2)", "p(3)", "q(1, 1)")
	more, less := facts.Diff(a, b)
	want(t, more, terms(t, "b", "p(3)", "q(1, 1)")...)
	want(t, less, terms(t, "a", "p(1)")...)
	more, less = facts.Diff(b, a)
	want(t, more, terms(t, "a", "p(1)")...)
	want(t, less, terms(t, "b", "p(3)", "q(1, 1)")...)
	more, less = facts.Diff(a, a)
	want(t, more)
	want(t, less)
	more, less = facts.Diff(nil, b)
	want(t, more, b...)
	want(t, less)
	more, less = facts.Diff(a, nil)
	want(t, more)
	want(t, less, a...)
}
