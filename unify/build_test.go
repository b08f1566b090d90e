package unify_test

import (
	"math/rand/v2"
	"slices"
	"testing"

	"sorrel/api"
	"sorrel/subst"
	"sorrel/term"
	"sorrel/unify"
)

func variable(n int) []api.Cell { return []api.Cell{{Kind: api.Var, N: n}} }

func number(n int) []api.Cell { return []api.Cell{{Kind: api.Int, N: n}} }

func fun(name string, args ...[]api.Cell) []api.Cell {
	return append([]api.Cell{{Kind: api.Fun, Name: name, N: len(args)}}, slices.Concat(args...)...)
}

// head is a Fun alone, whatever stands behind it.
func head(name string, n int) []api.Cell { return []api.Cell{{Kind: api.Fun, Name: name, N: n}} }

// nest is a term in as many Funs of one argument.
func nest(times int, t []api.Cell) []api.Cell {
	return append(slices.Repeat(head("s", 1), times), t...)
}

// row is a Fun of terms, of which there may be many: each 6th one begins another Fun within.
func row(l ...[]api.Cell) []api.Cell {
	if len(l) <= api.MaxArity {
		return fun("row", l...)
	}
	return fun("row", append(slices.Clone(l[:api.MaxArity-1]), row(l[api.MaxArity-1:]...))...)
}

func bind(v int, t []api.Cell) api.Bind { return api.Bind{Var: v, T: t} }

func binds(l ...api.Bind) []api.Bind { return l }

func same(a []api.Cell, b []api.Cell) bool { return slices.Equal(a, b) }

func alike(a []api.Bind, b []api.Bind) bool {
	return slices.EqualFunc(a, b, func(x api.Bind, y api.Bind) bool { return x.Var == y.Var && same(x.T, y.T) })
}

// wantMgu asks Mgu of both terms, and of them the other way round.
func wantMgu(t *testing.T, a []api.Cell, b []api.Cell, want []api.Bind, e api.Errno) {
	t.Helper()
	if !term.Right(a) || !term.Right(b) {
		t.Fatal("the test is wrong", a, b)
	}
	for _, x := range [][2][]api.Cell{{a, b}, {b, a}} {
		s, got := unify.Mgu(x[0], x[1])
		if got != e || !alike(s, want) || e != api.OK && s != nil {
			t.Fatal("terms", x[0], x[1], "told", s, got, "wanted", want, e)
		}
	}
}

// wantMatch asks Match.
func wantMatch(t *testing.T, p []api.Cell, x []api.Cell, want []api.Bind, is bool) {
	t.Helper()
	if !term.Right(p) || !term.Right(x) {
		t.Fatal("the test is wrong", p, x)
	}
	if s, got := unify.Match(p, x); got != is || !alike(s, want) || !is && s != nil {
		t.Fatal("terms", p, x, "told", s, got, "wanted", want, is)
	}
}

// wantVariant asks Variant of both terms, and of them the other way round.
func wantVariant(t *testing.T, a []api.Cell, b []api.Cell, want bool) {
	t.Helper()
	if unify.Variant(a, b) != want || unify.Variant(b, a) != want {
		t.Fatal("terms", a, b, "wanted", want)
	}
}

// source grows terms from a fixed seed.
type source struct{ *rand.Rand }

func seeded(n uint64) source { return source{rand.New(rand.NewPCG(n, 23))} }

// variables are few, so that they meet; the greatest one is among them.
func few() []int { return []int{0, 1, 2, 3, 4, 999} }

// term is one over the variables of vars (none, if it is to be ground).
func (from source) term(deep int, vars []int) []api.Cell {
	switch kind := from.IntN(4 + deep); {
	case kind < 3 && len(vars) > 0:
		return variable(vars[from.IntN(len(vars))])
	case kind < 1:
		// A number that is as a variable's is no variable.
		return number(from.IntN(3))
	case kind < 4 || deep == 0:
		return fun(string(rune('a' + from.IntN(2))))
	}
	args := make([][]api.Cell, 1+from.IntN(2))
	for i := range args {
		args[i] = from.term(deep-1, vars)
	}
	return fun(string(rune('f'+from.IntN(8)/7)), args...)
}

// broken is t with some of its parts, at any depth, replaced by variables of vars.
func (from source) broken(t []api.Cell, vars []int) []api.Cell {
	var out []api.Cell
	for at := 0; at < len(t); {
		next := at + 1
		if from.IntN(4) == 0 {
			next = end(t, at)
			out = append(out, variable(vars[from.IntN(len(vars))])...)
		} else {
			out = append(out, t[at])
		}
		at = next
	}
	return out
}

// pair are two terms, one broken out of the other one half of the time, so that many can be made alike.
func (from source) pair() ([]api.Cell, []api.Cell) {
	a := from.term(from.IntN(5), few())
	if from.IntN(2) == 0 {
		return a, from.term(from.IntN(5), few())
	}
	return from.broken(a, few()), from.broken(a, few())
}

// end is the place behind the term that begins at a place.
func end(t []api.Cell, at int) int {
	for open := 1; open > 0; at++ {
		open--
		if t[at].Kind == api.Fun {
			open += t[at].N
		}
	}
	return at
}

// put is t into which s is put; that must have no more cells than a term may have.
func put(t *testing.T, s []api.Bind, x []api.Cell) []api.Cell {
	t.Helper()
	got, fits := subst.Apply(s, x)
	if !fits {
		t.Fatal("too long:", s, x)
	}
	return got
}

// wrong are rows that are no right term.
func wrong() [][]api.Cell {
	return [][]api.Cell{
		nil, {}, {{}}, {{Kind: 4}}, {{Kind: -1, Name: "a"}}, head("f", 1), head("f", -1), head("f", 2), head("f", 1<<62), slices.Concat(variable(1), variable(2)), slices.Concat(fun("a"), number(1)),
		variable(-1), variable(1000), variable(-1 << 63), fun("f", variable(1000)), {{Kind: api.Var, Name: "x", N: 3}}, {{Kind: api.Int, Name: "x"}}, slices.Concat(head("f", 2), variable(3)),
		number(1 << 31), number(-1 << 31), fun(""), fun("thirteen_byte"), fun("'"), fun("\x7f"), fun("f", fun("")), slices.Concat(fun("f", variable(3)), variable(4)),
		fun("f", slices.Repeat([][]api.Cell{number(1)}, 7)...), nest(200, number(0)), nest(1000, variable(0)), slices.Repeat(variable(0), 201),
	}
}
