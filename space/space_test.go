package space_test

import (
	"slices"
	"testing"

	"sorrel/api"
	"sorrel/space"
)

// The chapter's examples.
func TestExamples(t *testing.T) {
	s, n := space.Open(nil, fun("p", variable(5)))
	if n != 0 || !sameTables(s, []api.Table{{Call: fun("p", variable(0))}}) {
		t.Error(s, n)
	}
	for _, x := range []int{5, 1} {
		again, n := space.Open(s, fun("p", variable(x)))
		if n != 0 || !sameTables(again, s) {
			t.Error(again, n)
		}
	}
	s, n = space.Open(s, fun("q"))
	if n != 1 || !sameTables(s, tables(t, "p(A); q")) {
		t.Error(s, n)
	}
	sorted, places := space.Sort(s)
	if !sameTables(sorted, tables(t, "q; p(A)")) || !slices.Equal(places, []int{1, 0}) {
		t.Error(sorted, places)
	}
}

// P14.1, N1: a table is found by any names of its call's variables, and by those alone.
func TestFind(t *testing.T) {
	s := tables(t, "q; p(A): p(1); p(A,B); p(A,A): p(1,1); p(1); p(f(A),g(B,A)); p(f(A),g(A,B)); 'P'(A); q(a)")
	x := variable
	for _, c := range []struct {
		call []api.Cell
		n    int
	}{
		{fun("q"), 0},
		{fun("p", x(0)), 1}, {fun("p", x(1)), 1}, {fun("p", x(999)), 1},
		{fun("p", x(0), x(1)), 2}, {fun("p", x(1), x(0)), 2}, {fun("p", x(999), x(3)), 2},
		{fun("p", x(0), x(0)), 3}, {fun("p", x(1), x(1)), 3}, {fun("p", x(999), x(999)), 3},
		{fun("p", number(1)), 4},
		{fun("p", fun("f", x(7)), fun("g", x(2), x(7))), 5}, {fun("p", fun("f", x(0)), fun("g", x(1), x(0))), 5},
		{fun("p", fun("f", x(7)), fun("g", x(7), x(2))), 6}, {fun("p", fun("f", x(1)), fun("g", x(1), x(0))), 6},
		{fun("P", x(4)), 7},
		{fun("q", fun("a")), 8},
		// An instance of a table's call, or one more general, has a table of its own.
		{fun("p", number(2)), -1}, {fun("p", number(0)), -1}, {fun("p", fun("a")), -1}, {fun("p", x(0), number(1)), -1}, {fun("q", x(0)), -1}, {fun("p", fun("f", x(0)), fun("g", x(0), x(0))), -1},
		{fun("p", fun("f", x(0)), fun("g", x(1), x(2))), -1}, {fun("p", fun("f", x(0)), x(1)), -1}, {fun("P", fun("f", x(0))), -1}, {fun("q", fun("b")), -1},
		// Other predicates, and terms that are none.
		{fun("p"), -1}, {fun("r"), -1}, {fun("Q"), -1}, {fun("p", x(0), x(1), x(2)), -1}, {fun("pp", x(0)), -1}, {x(0), -1}, {x(5), -1}, {number(0), -1},
	} {
		if n := space.Find(s, c.call); n != c.n {
			t.Error(c.call, n, c.n)
		}
		if n := space.Find(nil, c.call); n != -1 {
			t.Error(c.call, n)
		}
	}
}

// P14.1, N2: what is opened stands behind all others, numbered, without answers.
func TestOpen(t *testing.T) {
	x := variable
	s := tables(t, "q: q; p(A): p(1) p(2)")
	for _, c := range []struct {
		call []api.Cell
		want string
		n    int
	}{
		{fun("q"), "q: q; p(A): p(1) p(2)", 0},
		{fun("p", x(8)), "q: q; p(A): p(1) p(2)", 1},
		{fun("p", number(1)), "q: q; p(A): p(1) p(2); p(1)", 2},
		{fun("a"), "q: q; p(A): p(1) p(2); a", 2},
		{fun("p", x(8), fun("f", x(3), x(8))), "q: q; p(A): p(1) p(2); p(A,f(B,A))", 2},
		{fun("p", x(999), x(998), x(999)), "q: q; p(A): p(1) p(2); p(A,B,A)", 2},
		{fun("q", nest(5, x(1))), "q: q; p(A): p(1) p(2); q(s(s(s(s(s(A))))))", 2},
	} {
		if got, n := space.Open(s, c.call); n != c.n || !sameTables(got, tables(t, c.want)) {
			t.Error(c.call, got, n)
		}
	}
	// The place is there for the next call.
	l := opened(fun("p", x(3)), fun("q", x(3), x(4)), fun("p", x(4)), fun("q", x(4), x(3)), fun("q", x(3), x(3)), fun("q", x(0), x(1)))
	if !sameTables(l, tables(t, "p(A); q(A,B); q(A,A)")) {
		t.Error(l)
	}
}

// P14.1, N2: a right term of 200 cells is a call as any other one.
func TestOpenLong(t *testing.T) {
	long, other := fun("p", nest(198, variable(6))), fun("p", nest(198, fun("a")))
	s := opened(long, other)
	if len(s) != 2 || len(s[0].Call) != 200 || len(s[1].Call) != 200 || !space.Right(s) || s[0].Call[199].N != 0 {
		t.Error(s)
	}
	if n := space.Find(s, fun("p", nest(198, variable(999)))); n != 0 {
		t.Error(n)
	}
	s, is := space.Answer(s, 0, other)
	if !is || !space.Right(s) {
		t.Error(is, s)
	}
	s, is = space.Answer(s, 1, other)
	if !is || !space.Right(s) || space.Total(s) != 2 {
		t.Error(is, s)
	}
}

// P14.1, N3: an answer goes behind its table's others, and nowhere else.
func TestAnswer(t *testing.T) {
	s := tables(t, "q; p(A): p(2) p(1); p(A,B): p(1,1)")
	for _, c := range []struct {
		n    int
		t    []api.Cell
		want string
		is   bool
	}{
		{0, fun("q"), "q: q; p(A): p(2) p(1); p(A,B): p(1,1)", true},
		{1, fun("p", number(0)), "q; p(A): p(2) p(1) p(0); p(A,B): p(1,1)", true},
		{1, fun("p", fun("f", fun("a"))), "q; p(A): p(2) p(1) p(f(a)); p(A,B): p(1,1)", true},
		{2, fun("p", number(1), number(2)), "q; p(A): p(2) p(1); p(A,B): p(1,1) p(1,2)", true},
		{2, fun("p", number(0), number(1)), "q; p(A): p(2) p(1); p(A,B): p(1,1) p(0,1)", true},
		{1, fun("p", number(1)), "", false},
		{1, fun("p", number(2)), "", false},
		{2, fun("p", number(1), number(1)), "", false},
		{-1, fun("q"), "", false},
		{3, fun("q"), "", false},
		{3, fun("p", number(1)), "", false},
		{-1 << 63, fun("q"), "", false},
		{1<<63 - 1, fun("q"), "", false},
		{1 << 32, fun("q"), "", false},
	} {
		want := s
		if c.is {
			want = tables(t, c.want)
		}
		if got, is := space.Answer(s, c.n, c.t); is != c.is || !sameTables(got, want) {
			t.Error(c.n, c.t, got, is)
		}
	}
	if got, is := space.Answer(nil, 0, fun("q")); is || len(got) > 0 {
		t.Error(got, is)
	}
}

// P14.1, N3: two tables may have the same answer, each by itself.
func TestAnswerOfTwo(t *testing.T) {
	s := tables(t, "p(A); p(1); p(B)")[:2]
	for n, want := range []string{"p(A): p(1); p(1)", "p(A): p(1); p(1): p(1)"} {
		got, is := space.Answer(s, n, fun("p", number(1)))
		if !is || !sameTables(got, tables(t, want)) {
			t.Error(n, got, is)
		}
		s = got
	}
}

// P14.1, N4: tables rise by their calls, as do each one's answers; of each table it is told where it stands.
func TestSort(t *testing.T) {
	for _, c := range []struct {
		from, want string
		places     []int
	}{
		{"", "", nil},
		{"q: q", "q: q", []int{0}},
		{"p(A): p(2) p(1) p(-1)", "p(A): p(-1) p(1) p(2)", []int{0}},
		{"q; p", "p; q", []int{1, 0}},
		{"p; q", "p; q", []int{0, 1}},
		// Fewer arguments first, then the name, then the arguments: a variable, a number, a name.
		{"p(A,B); p(A,A); p(1); p(a); p(A); b(a); q; 'B'(A)", "q; 'B'(A); b(a); p(A); p(1); p(a); p(A,A); p(A,B)", []int{7, 6, 4, 5, 3, 2, 0, 1}},
		{"p(f(A)): p(f(b)) p(f(a)) p(f(1)); p(2); p(A): p(f(1,1)) p(f(1)) p(b) p(7) p(-7)", "p(A): p(-7) p(7) p(b) p(f(1)) p(f(1,1)); p(2); p(f(A)): p(f(1)) p(f(a)) p(f(b))", []int{2, 1, 0}},
		{"c: c; a; b: b", "a; b: b; c: c", []int{2, 0, 1}},
		{"b; c; a", "a; b; c", []int{1, 2, 0}},
	} {
		got, places := space.Sort(tables(t, c.from))
		if !sameTables(got, tables(t, c.want)) || !slices.Equal(places, c.places) {
			t.Error(c.from, got, places)
		}
		again, places := space.Sort(got)
		if !sameTables(again, got) || len(places) != len(got) || !slices.IsSorted(places) {
			t.Error(c.from, again, places)
		}
	}
}

// P14.1, N4: all answers count, of each table.
func TestTotal(t *testing.T) {
	for s, total := range map[string]int{"": 0, "q": 0, "q: q": 1, "q; p(A); p(1)": 0, "p(A): p(1) p(2); p(1): p(1)": 3, "q: q; p(A): p(1) p(2) p(3); r; p(A,B): p(1,2) p(2,1)": 6} {
		if n := space.Total(tables(t, s)); n != total {
			t.Error(s, n)
		}
	}
}

// P14.1, N4: tables that are right.
func TestRight(t *testing.T) {
	for _, s := range []string{"", "q", "q: q", "p(A); p(A,B); p(A,A); p(1); q", "p(A): p(2) p(1) p(f(a)); p(1): p(1)", "p(A,A): p(1,1) p(f(2),f(2)); p(A,f(B,A)): p(1,f(2,1)) p(1,f(1,1))", "p(2); p(1); 'P'(A); '=': '='"} {
		if !space.Right(tables(t, s)) {
			t.Error(s)
		}
	}
	if !space.Right([]api.Table{}) || !space.Right([]api.Table{{Call: fun("q"), Answers: [][]api.Cell{}}}) {
		t.Error("empty")
	}
	// Deeper than a fact may be, and as long as a term may be.
	deep := nest(199, fun("a"))
	if !space.Right([]api.Table{{Call: nest(199, variable(0)), Answers: [][]api.Cell{deep}}, {Call: deep, Answers: [][]api.Cell{deep}}}) {
		t.Error("deep")
	}
}

// P14.1, N4: a call that may not be, wherever its table stands.
func TestRightCalls(t *testing.T) {
	x, y := variable(0), variable(1)
	calls := [][]api.Cell{
		// No right atom.
		nil, {}, {{}}, x, number(0), fun(""), fun("it's"), fun("thirteen_byte"), fun("p", x)[:1], append(fun("p"), fun("p")...), append(fun("p", x), x...), fun("p", variable(1000)), fun("p", variable(-1)), fun("p", number(api.MaxInt+1)),
		fun("p", slices.Repeat([][]api.Cell{number(1)}, 7)...), {{Kind: 4, Name: "p"}}, {{Kind: api.Fun, Name: "p", N: -1}}, nest(200, fun("a")), nest(200, x),
		// Its variables are not numbered.
		fun("p", y), fun("p", variable(999)), fun("p", y, x), fun("p", x, variable(2)), fun("p", x, fun("f", variable(2), y)), fun("p", number(0), y),
		// It stands there already.
		fun("q"), fun("p", x), fun("p", x, y),
	}
	for i, call := range calls {
		for at := range 4 {
			s := slices.Insert(tables(t, "q: q; p(A): p(1); p(A,B)"), at, api.Table{Call: call})
			if space.Right(s) {
				t.Error(i, at, call)
			}
		}
	}
}

// P14.1, N4: an answer that may not be, wherever it stands.
func TestRightAnswers(t *testing.T) {
	x := variable(0)
	for i, c := range []struct {
		call []api.Cell
		bad  []api.Cell
	}{
		// No right term.
		{fun("p", x), nil}, {fun("p", x), []api.Cell{}}, {fun("p", x), []api.Cell{{}}}, {fun("p", x), fun("p", number(1))[:1]}, {fun("p", x), append(fun("p", number(1)), number(1)...)}, {fun("p", x), fun("p", fun(""))}, {fun("p", x), fun("p", number(api.MaxInt+1))},
		{fun("p", x), fun("p", nest(199, fun("a")))}, {fun("p", x), fun("p", []api.Cell{{Kind: api.Int, Name: "a"}})},
		// It has a variable, if only that of the call.
		{fun("p", x), fun("p", x)}, {fun("p", x), fun("p", variable(3))}, {fun("p", x), fun("p", fun("f", number(1), x))},
		// It is no instance.
		{fun("p", x), fun("p")}, {fun("p", x), fun("q", number(1))}, {fun("p", x), fun("p", number(1), number(1))}, {fun("p", x), number(1)}, {fun("p", x), x},
		{fun("p", fun("f", x)), fun("p", number(1))}, {fun("p", fun("f", x)), fun("p", fun("g", number(1)))}, {fun("p", number(7), x), fun("p", number(8), number(1))}, {fun("p", number(7), x), fun("p", fun("a"), number(1))},
		{fun("p", x, x), fun("p", number(1), number(2))}, {fun("p", x, x), fun("p", fun("f", number(1)), fun("f", number(2)))}, {fun("p", x, fun("f", x)), fun("p", number(1), number(1))}, {fun("p", variable(0), variable(1), variable(0)), fun("p", number(1), number(1), number(2))},
	} {
		good := [][]api.Cell{seeded(1).filled(c.call)}
		if other := seeded(3).filled(c.call); !slices.Equal(other, good[0]) {
			good = append(good, other)
		}
		for at := range len(good) + 1 {
			one := api.Table{Call: c.call, Answers: slices.Insert(slices.Clone(good), at, c.bad)}
			if space.Right([]api.Table{one}) || space.Right([]api.Table{{Call: fun("z")}, one, {Call: fun("y")}}) {
				t.Error(i, at, one)
			}
		}
		if !space.Right([]api.Table{{Call: c.call, Answers: good}}) {
			t.Error(i, good)
		}
	}
	// An answer twice, with or without others between.
	for _, s := range []string{"p(A): p(1) p(1)", "p(A): p(1) p(2) p(1)", "p(A): p(2) p(1) p(3) p(1) p(4)", "q: q q", "r; p(A,B): p(f(1),1) p(1,f(1)) p(f(1),1); q"} {
		if space.Right(tables(t, s)) {
			t.Error(s)
		}
	}
}

// P14.1: many tables, with many answers, are gone through in no time.
func TestMany(t *testing.T) {
	var s []api.Table
	for i := range 3000 {
		s = append(s, api.Table{Call: fun("p", number(3000-i))})
	}
	s = append(s, api.Table{Call: fun("q", variable(0))})
	for i := range 30000 {
		s[3000].Answers = append(s[3000].Answers, fun("q", number(30000-i)))
	}
	if !space.Right(s) || space.Total(s) != 30000 || space.Find(s, fun("p", number(1))) != 2999 || space.Find(s, fun("q", variable(7))) != 3000 {
		t.Error("not as it is")
	}
	sorted, places := space.Sort(s)
	if !space.Right(sorted) || places[0] != 2999 || places[2999] != 0 || places[3000] != 3000 || sorted[3000].Answers[0][1].N != 1 {
		t.Error("not sorted")
	}
	s[3000].Answers[29999] = s[3000].Answers[0]
	if space.Right(s) {
		t.Error("twice")
	}
}
