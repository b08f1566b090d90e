package subst_test

import (
	"math/rand/v2"
	"slices"

	"sorrel/api"
)

func variable(n int) []api.Cell { return []api.Cell{{Kind: api.Var, N: n}} }

func number(n int) []api.Cell { return []api.Cell{{Kind: api.Int, N: n}} }

func fun(name string, args ...[]api.Cell) []api.Cell {
	return append([]api.Cell{{Kind: api.Fun, Name: name, N: len(args)}}, slices.Concat(args...)...)
}

// head is a Fun alone, whatever stands behind it.
func head(name string, n int) []api.Cell { return []api.Cell{{Kind: api.Fun, Name: name, N: n}} }

// nest is a term in as many Funs of one argument.
func nest(times int, t []api.Cell) []api.Cell {
	return append(slices.Repeat(head("s", 1), times), t...)
}

func bind(v int, t []api.Cell) api.Bind { return api.Bind{Var: v, T: t} }

func binds(l ...api.Bind) []api.Bind { return l }

func same(a []api.Cell, b []api.Cell) bool { return slices.Equal(a, b) }

func alike(a []api.Bind, b []api.Bind) bool {
	return slices.EqualFunc(a, b, func(x api.Bind, y api.Bind) bool { return x.Var == y.Var && same(x.T, y.T) })
}

// deepCopy is the same bindings in memory of their own.
func deepCopy(s []api.Bind) []api.Bind {
	other := slices.Clone(s)
	for i, b := range s {
		other[i].T = slices.Clone(b.T)
	}
	return other
}

// source grows terms and bindings from a fixed seed.
type source struct{ *rand.Rand }

func seeded(n uint64) source { return source{rand.New(rand.NewPCG(n, 17))} }

// variables are few, so that bindings meet them; the greatest one is among them.
func (from source) variable() int { return []int{0, 1, 2, 3, 4, 999}[from.IntN(6)] }

func (from source) term(deep int) []api.Cell {
	switch from.IntN(3 + deep) {
	case 0, 1:
		return variable(from.variable())
	case 2:
		// A number that is as a variable's is no variable.
		return number(from.IntN(5))
	}
	args := make([][]api.Cell, from.IntN(4))
	for i := range args {
		args[i] = from.term(deep - 1)
	}
	return fun(string(rune('f'+from.IntN(3))), args...)
}

// bindings are right ones.
func (from source) bindings() []api.Bind {
	var s []api.Bind
	for _, v := range []int{0, 1, 2, 3, 4, 999} {
		if t := from.term(from.IntN(4)); from.IntN(2) == 0 && !same(t, variable(v)) {
			s = append(s, bind(v, t))
		}
	}
	return s
}

func (from source) terms(many int) [][]api.Cell {
	l := make([][]api.Cell, many)
	for i := range l {
		l[i] = from.term(from.IntN(5))
	}
	return l
}

// wrong are rows that are no right term.
func wrong() [][]api.Cell {
	return [][]api.Cell{
		nil, {}, {{}}, {{Kind: 4}}, {{Kind: -1, Name: "a"}}, head("f", 1), head("f", -1), slices.Concat(variable(1), variable(2)), slices.Concat(fun("a"), number(1)),
		variable(-1), variable(1000), variable(-1 << 63), fun("f", variable(1000)), {{Kind: api.Var, Name: "x", N: 3}}, {{Kind: api.Int, Name: "x"}},
		number(1 << 31), number(-1 << 31), fun(""), fun("thirteen_byte"), fun("'"), fun("\x7f"), fun("f", fun("")),
		fun("f", slices.Repeat([][]api.Cell{number(1)}, 7)...), nest(200, number(0)), nest(1000, variable(0)), slices.Repeat(variable(0), 201),
	}
}

// wrongBindings are such as Right refuses.
func wrongBindings() [][]api.Bind {
	l := [][]api.Bind{
		binds(bind(-1, fun("a"))), binds(bind(1000, fun("a"))), binds(bind(-1<<63, fun("a"))), binds(bind(1<<63-1, fun("a"))),
		binds(bind(0, variable(0))), binds(bind(1, variable(1))), binds(bind(999, variable(999))), binds(bind(0, fun("a")), bind(1, variable(1))), binds(bind(1, variable(1)), bind(2, fun("a"))),
		binds(bind(1, variable(0)), bind(1, variable(2))), binds(bind(1, variable(0)), bind(1, variable(0))), binds(bind(0, fun("a")), bind(0, fun("b")), bind(1, fun("a"))),
		binds(bind(2, fun("a")), bind(1, fun("a"))), binds(bind(0, fun("a")), bind(2, fun("a")), bind(1, fun("a"))), binds(bind(999, fun("a")), bind(0, fun("a"))),
		binds(bind(0, fun("a")), bind(1, fun("b")), bind(0, fun("a"))), binds(bind(999, fun("a")), bind(1000, fun("a"))), binds(bind(-1, fun("a")), bind(0, fun("a"))),
	}
	for _, t := range wrong() {
		l = append(l, binds(bind(3, t)), binds(bind(3, t), bind(4, fun("a"))), binds(bind(0, fun("a")), bind(3, t)))
	}
	return l
}
