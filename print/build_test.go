package print_test

import (
	"math/rand/v2"
	"slices"
	"testing"

	"sorrel/api"
	"sorrel/print"
	"sorrel/read"
	"sorrel/term"
)

func variable(n int) []api.Cell { return []api.Cell{{Kind: api.Var, N: n}} }

func number(n int) []api.Cell { return []api.Cell{{Kind: api.Int, N: n}} }

func fun(name string, args ...[]api.Cell) []api.Cell {
	return append([]api.Cell{{Kind: api.Fun, Name: name, N: len(args)}}, slices.Concat(args...)...)
}

// list is a list's Funs, as far as a tail.
func list(tail []api.Cell, l ...[]api.Cell) []api.Cell {
	for i := len(l) - 1; i >= 0; i-- {
		tail = fun(".", l[i], tail)
	}
	return tail
}

func is(t []api.Cell) api.Lit { return api.Lit{T: t} }

func not(t []api.Cell) api.Lit { return api.Lit{Neg: true, T: t} }

func clause(head []api.Cell, body ...api.Lit) api.Clause { return api.Clause{Head: head, Body: body} }

func sameClause(a api.Clause, b api.Clause) bool {
	return slices.Equal(a.Head, b.Head) && slices.EqualFunc(a.Body, b.Body, func(x api.Lit, y api.Lit) bool { return x.Neg == y.Neg && slices.Equal(x.T, y.T) })
}

func sameProgram(a []api.Clause, b []api.Clause) bool { return slices.EqualFunc(a, b, sameClause) }

// copied is a program that shares nothing with l.
func copied(l []api.Clause) []api.Clause {
	var to []api.Clause
	for _, c := range l {
		one := clause(slices.Clone(c.Head))
		for _, x := range c.Body {
			one.Body = append(one.Body, api.Lit{Neg: x.Neg, T: slices.Clone(x.T)})
		}
		to = append(to, one)
	}
	return to
}

// want asks for a term's text.
func want(t *testing.T, x []api.Cell, s string) {
	t.Helper()
	if got := print.Term(x); got != s {
		t.Fatalf("of %v told %q, wanted %q", x, got, s)
	}
}

// wantClause asks for a clause's text.
func wantClause(t *testing.T, c api.Clause, s string) {
	t.Helper()
	if got := print.Clause(c); got != s {
		t.Fatalf("of %v told %q, wanted %q", c, got, s)
	}
}

// back asks that a term's text is read as the term, numbered, and by the letters that were written.
func back(t *testing.T, x []api.Cell) {
	t.Helper()
	s := print.Term(x)
	got, names, at, e := read.Term(s)
	if e != api.OK || at != 0 || !slices.Equal(got, term.Number(x)) {
		t.Fatalf("%v, as %q, was read as %v %d %v", x, s, got, at, e)
	}
	var letters []string
	for _, n := range term.Vars(x) {
		letters = append(letters, print.VarName(n))
	}
	if !slices.Equal(names, letters) {
		t.Fatalf("%q was read with %q, wanted %q", s, names, letters)
	}
}

// backProgram asks that a program's text is read as the program, each clause numbered.
func backProgram(t *testing.T, l []api.Clause) {
	t.Helper()
	s := print.Program(l)
	var wanted []api.Clause
	for _, c := range l {
		wanted = append(wanted, numbered(c))
	}
	if got, at, e := read.Program(s); e != api.OK || at != 0 || !sameProgram(got, wanted) {
		t.Fatalf("%v, as %q, was read as %v %d %v", l, s, got, at, e)
	}
}

// numbered is a clause whose variables are numbered as they come.
func numbered(c api.Clause) api.Clause {
	met := map[int]int{}
	row := func(t []api.Cell) []api.Cell {
		t = slices.Clone(t)
		for i, x := range t {
			if x.Kind != api.Var {
				continue
			}
			if _, is := met[x.N]; !is {
				met[x.N] = len(met)
			}
			t[i].N = met[x.N]
		}
		return t
	}
	to := clause(row(c.Head))
	for _, x := range c.Body {
		to.Body = append(to.Body, api.Lit{Neg: x.Neg, T: row(x.T)})
	}
	return to
}

// source makes terms, clauses and rows from a fixed seed.
type source struct{ *rand.Rand }

func seeded(n uint64) source { return source{rand.New(rand.NewPCG(n, 67))} }

func (from source) just(l ...string) string { return l[from.IntN(len(l))] }

// name is one that a right term may have.
func (from source) name() string {
	switch from.IntN(8) {
	case 0:
		return from.just("=", "<", "+", "-", "*", ".", "[]", ":-", `\+`, "%", ",", "|", "(")
	case 1:
		return from.just("a", "b1_", "aZ", "z9", "X", "_", "it is", " ", "7", "-1", "a-b", "ab ", "_G1")
	case 2:
		return from.just("a", "f", "twelve_bytes", "Twelve_bytes", "-twelve----+")
	}
	b := make([]byte, 1+from.IntN(api.MaxName))
	for i := range b {
		for b[i] == 0 || b[i] == '\'' {
			b[i] = byte(32 + from.IntN(95))
			if from.IntN(3) > 0 {
				b[i] = from.just("a", "z", "A", "Z", "0", "9", "_")[0]
			}
		}
	}
	return string(b)
}

// term is one with all that is written in a way of its own.
func (from source) term(deep int) []api.Cell {
	switch kind := from.IntN(6 + 4*deep); {
	case kind < 2:
		return variable([]int{0, 1, 2, 25, 26, 27, 52, 77, 259, 260, 998, 999, from.IntN(1000)}[from.IntN(13)])
	case kind < 4:
		return number([]int{0, 1, -1, 9, -10, api.MaxInt, -api.MaxInt, from.IntN(1999) - 999}[from.IntN(8)])
	case kind < 6 || deep == 0:
		return fun(from.just("[]", "[]", "-", ".", from.name()))
	case kind < 11:
		return fun(from.just("=", "<", "+", "-", "*", ".", ".", from.name()), from.term(deep-1), from.term(deep-1))
	case kind < 13:
		return fun(from.just("-", "-", "+", `\+`, "[]", "."), from.term(deep-1))
	case kind < 15:
		l := make([][]api.Cell, 1+from.IntN(3))
		for i := range l {
			l[i] = from.term(deep - 1)
		}
		tail := fun("[]")
		if from.IntN(3) == 0 {
			tail = from.term(deep - 1)
		}
		return list(tail, l...)
	}
	args := make([][]api.Cell, 1+from.IntN(api.MaxArity))
	for i := range args {
		args[i] = from.term(from.IntN(deep))
	}
	return fun(from.just("f", "=", "-", "*", ".", "[]", from.name()), args...)
}

// right is such a term of no more cells than it may have.
func (from source) right() []api.Cell {
	for {
		if t := from.term(from.IntN(5)); len(t) <= api.MaxCells {
			return t
		}
	}
}

// atom is such a term that begins with a Fun.
func (from source) atom() []api.Cell {
	for {
		if t := from.right(); t[0].Kind == api.Fun {
			return t
		}
	}
}

func (from source) clause() api.Clause {
	c := clause(from.atom())
	for range from.IntN(api.MaxBody+4) - 3 {
		c.Body = append(c.Body, api.Lit{Neg: from.IntN(2) == 0, T: from.atom()})
	}
	return c
}

// program is up to so many clauses.
func (from source) program(many int) []api.Clause {
	l := make([]api.Clause, from.IntN(many+1))
	for i := range l {
		l[i] = from.clause()
	}
	return l
}

// wild is a row of cells, whatever they are.
func (from source) wild() []api.Cell {
	t := make([]api.Cell, from.IntN(6))
	for i := range t {
		t[i] = api.Cell{
			Kind: from.IntN(5),
			Name: from.just("", "", "a", "=", "-", ".", "[]", "it's", "\n", "\xff", "thirteenbytes"),
			N:    []int{0, 1, 2, 3, -1, 7, 1000, api.MaxInt + 1, -1 << 63, 1<<63 - 1}[from.IntN(10)],
		}
	}
	return t
}
