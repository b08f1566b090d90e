package prog_test

import (
	"math/rand/v2"
	"slices"
	"strconv"
	"testing"

	"sorrel/api"
	"sorrel/prog"
	"sorrel/read"
)

func variable(n int) []api.Cell { return []api.Cell{{Kind: api.Var, N: n}} }

func number(n int) []api.Cell { return []api.Cell{{Kind: api.Int, N: n}} }

func fun(name string, args ...[]api.Cell) []api.Cell {
	return append([]api.Cell{{Kind: api.Fun, Name: name, N: len(args)}}, slices.Concat(args...)...)
}

// nest is a term in as many Funs of one argument.
func nest(times int, t []api.Cell) []api.Cell {
	return append(slices.Repeat([]api.Cell{{Kind: api.Fun, Name: "s", N: 1}}, times), t...)
}

func is(t []api.Cell) api.Lit { return api.Lit{T: t} }

func not(t []api.Cell) api.Lit { return api.Lit{Neg: true, T: t} }

func clause(head []api.Cell, body ...api.Lit) api.Clause { return api.Clause{Head: head, Body: body} }

// pred is a name's predicate, without arguments unless their number is told.
func pred(name string, n ...int) api.Pred {
	p := api.Pred{Name: name}
	if len(n) > 0 {
		p.N = n[0]
	}
	return p
}

// program is what a text says.
func program(t *testing.T, s string) []api.Clause {
	t.Helper()
	l, at, e := read.Program(s)
	if e != api.OK {
		t.Fatal(s, at, e)
	}
	return l
}

// named is the letters p and a number, of as many digits whatever the number is.
func named(n int) string { return "p" + strconv.Itoa(100000+n) }

// leans is the clause of which one number's head leans on another one's.
func leans(from int, to int, neg bool) api.Clause {
	return clause(fun(named(from)), api.Lit{Neg: neg, T: fun(named(to))})
}

func sameClause(a api.Clause, b api.Clause) bool {
	return slices.Equal(a.Head, b.Head) && slices.EqualFunc(a.Body, b.Body, func(x api.Lit, y api.Lit) bool { return x.Neg == y.Neg && slices.Equal(x.T, y.T) })
}

// copied is a program that shares nothing with l.
func copied(l []api.Clause) []api.Clause {
	var to []api.Clause
	for _, c := range l {
		one := clause(slices.Clone(c.Head))
		for _, x := range c.Body {
			one.Body = append(one.Body, api.Lit{Neg: x.Neg, T: slices.Clone(x.T)})
		}
		to = append(to, one)
	}
	return to
}

// wantLevels asks for levels, one of each of Preds.
func wantLevels(t *testing.T, l []api.Clause, levels ...int) {
	t.Helper()
	if got, is := prog.Levels(l); !is || !slices.Equal(got, levels) {
		t.Fatalf("of %v told %v %v, wanted %v", l, got, is, levels)
	}
}

// wantNoLevels asks that there are none.
func wantNoLevels(t *testing.T, l []api.Clause) {
	t.Helper()
	if got, is := prog.Levels(l); is || len(got) != 0 {
		t.Fatalf("of %v told %v %v, wanted none", l, got, is)
	}
}

// source makes clauses and rows from a fixed seed.
type source struct{ *rand.Rand }

func seeded(n uint64) source { return source{rand.New(rand.NewPCG(n, 71))} }

func (from source) just(l ...string) string { return l[from.IntN(len(l))] }

func (from source) coin() bool { return from.IntN(2) == 0 }

// argument is a small term of few variables.
func (from source) argument(deep int) []api.Cell {
	switch kind := from.IntN(6 + 2*deep); {
	case kind < 4:
		return variable([]int{0, 1, 2, 3, 999}[from.IntN(5)])
	case kind < 5:
		return number(from.IntN(5) - 2)
	case kind < 6 || deep == 0:
		return fun(from.just("a", "b"))
	}
	args := make([][]api.Cell, 1+from.IntN(2))
	for i := range args {
		args[i] = from.argument(deep - 1)
	}
	return fun(from.just("f", "p", "-"), args...)
}

// atom is one of few predicates; without variables now and then.
func (from source) atom() []api.Cell {
	args := make([][]api.Cell, from.IntN(4))
	for i := range args {
		args[i] = from.argument(from.IntN(3))
		if from.IntN(3) == 0 {
			args[i] = fun("a")
		}
	}
	return fun(from.just("p", "q", "r", "B", "=", "pp"), args...)
}

func (from source) literal() api.Lit { return api.Lit{Neg: from.IntN(3) == 0, T: from.atom()} }

func (from source) clause() api.Clause {
	c := clause(from.atom())
	for range from.IntN(api.MaxBody + 1) {
		c.Body = append(c.Body, from.literal())
	}
	return c
}

// program is up to so many clauses.
func (from source) program(many int) []api.Clause {
	l := make([]api.Clause, from.IntN(many+1))
	for i := range l {
		l[i] = from.clause()
	}
	return l
}

// leaning is a program of so many predicates, with more or fewer negations.
func (from source) leaning(preds int, many int) []api.Clause {
	rare := 1 + from.IntN(12)
	l := make([]api.Clause, many)
	for i := range l {
		to := from.IntN(preds)
		neg := from.IntN(rare) == 0
		head := from.IntN(preds)
		// Negations that lead downwards alone leave some programs with levels.
		if neg && head < to && from.IntN(20) > 0 {
			head, to = to, head
		}
		l[i] = leans(head, to, neg)
	}
	return l
}

func (from source) shuffled(l []api.Clause) []api.Clause {
	to := slices.Clone(l)
	from.Shuffle(len(to), func(i int, j int) { to[i], to[j] = to[j], to[i] })
	return to
}

// wild is a row of cells, whatever they are.
func (from source) wild() []api.Cell {
	t := make([]api.Cell, from.IntN(5))
	for i := range t {
		t[i] = api.Cell{
			Kind: from.IntN(5),
			Name: from.just("", "", "a", "p", "it's", "\n", "\xff", "thirteenbytes"),
			N:    []int{0, 1, 2, 3, -1, 7, 1000, api.MaxInt + 1, -1 << 63, 1<<63 - 1}[from.IntN(10)],
		}
	}
	return t
}

// wildClause is a clause of any rows.
func (from source) wildClause() api.Clause {
	row := func() []api.Cell {
		if from.coin() {
			return from.wild()
		}
		return from.atom()
	}
	c := clause(row())
	for range from.IntN(api.MaxBody + 3) {
		c.Body = append(c.Body, api.Lit{Neg: from.coin(), T: row()})
	}
	return c
}
