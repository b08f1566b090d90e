package code_test

import (
	"math/rand/v2"
	"slices"
	"testing"

	"sorrel/api"
	"sorrel/code"
)

func variable(n int) []api.Cell { return []api.Cell{{Kind: api.Var, N: n}} }

func number(n int) []api.Cell { return []api.Cell{{Kind: api.Int, N: n}} }

func fun(name string, args ...[]api.Cell) []api.Cell {
	return append([]api.Cell{{Kind: api.Fun, Name: name, N: len(args)}}, slices.Concat(args...)...)
}

// nest is a term in as many Funs of one argument.
func nest(times int, t []api.Cell) []api.Cell {
	return append(slices.Repeat([]api.Cell{{Kind: api.Fun, Name: "s", N: 1}}, times), t...)
}

func is(t []api.Cell) api.Lit { return api.Lit{T: t} }

func not(t []api.Cell) api.Lit { return api.Lit{Neg: true, T: t} }

func clause(head []api.Cell, body ...api.Lit) api.Clause { return api.Clause{Head: head, Body: body} }

// The instructions, each with what the chapter names of it.
func getVar(x int, a int) api.Instr { return api.Instr{Op: api.GetVar, X: x, A: a} }

func getVal(x int, a int) api.Instr { return api.Instr{Op: api.GetVal, X: x, A: a} }

func getInt(a int, n int) api.Instr { return api.Instr{Op: api.GetInt, A: a, N: n} }

func getFun(a int, name string, n int) api.Instr {
	return api.Instr{Op: api.GetFun, A: a, Name: name, N: n}
}

func uniVar(x int) api.Instr { return api.Instr{Op: api.UniVar, X: x} }

func uniVal(x int) api.Instr { return api.Instr{Op: api.UniVal, X: x} }

func uniInt(n int) api.Instr { return api.Instr{Op: api.UniInt, N: n} }

func putFun(a int, name string, n int) api.Instr {
	return api.Instr{Op: api.PutFun, A: a, Name: name, N: n}
}

func setVar(x int) api.Instr { return api.Instr{Op: api.SetVar, X: x} }

func setVal(x int) api.Instr { return api.Instr{Op: api.SetVal, X: x} }

func setInt(n int) api.Instr { return api.Instr{Op: api.SetInt, N: n} }

func call(a int) api.Instr { return api.Instr{Op: api.Call, A: a} }

func callNot(a int) api.Instr { return api.Instr{Op: api.Call, A: a, Neg: true} }

func proceed(name string, n int) api.Instr { return api.Instr{Op: api.Proceed, Name: name, N: n} }

func sameClause(a api.Clause, b api.Clause) bool {
	return slices.Equal(a.Head, b.Head) && slices.EqualFunc(a.Body, b.Body, func(x api.Lit, y api.Lit) bool { return x.Neg == y.Neg && slices.Equal(x.T, y.T) })
}

// copied is a clause that shares nothing with c.
func copied(c api.Clause) api.Clause {
	one := clause(slices.Clone(c.Head))
	for _, x := range c.Body {
		one.Body = append(one.Body, api.Lit{Neg: x.Neg, T: slices.Clone(x.T)})
	}
	return one
}

// rows are a clause's head, and its literals' terms.
func rows(c api.Clause) [][]api.Cell {
	l := [][]api.Cell{c.Head}
	for _, x := range c.Body {
		l = append(l, x.T)
	}
	return l
}

// renamed is a clause with other variables.
func renamed(c api.Clause, to func(n int) int) api.Clause {
	one := copied(c)
	for _, t := range rows(one) {
		for i := range t {
			if t[i].Kind == api.Var {
				t[i].N = to(t[i].N)
			}
		}
	}
	return one
}

// numbered is a clause whose variables are 0, 1, and so on, as they first stand in its head, and then in its literals.
func numbered(c api.Clause) api.Clause {
	var met []int
	return renamed(c, func(n int) int {
		if !slices.Contains(met, n) {
			met = append(met, n)
		}
		return slices.Index(met, n)
	})
}

// compiled is the code of a clause that may be.
func compiled(t *testing.T, c api.Clause) []api.Instr {
	t.Helper()
	l, e := code.Compile(c)
	if e != api.OK || len(l) == 0 {
		t.Fatal(c, l, e)
	}
	return l
}

// wantCode asks for a clause's code, and for the clause of that.
func wantCode(t *testing.T, c api.Clause, want ...api.Instr) {
	t.Helper()
	if l := compiled(t, c); !slices.Equal(l, want) {
		t.Fatalf("of %v\ntold   %v\nwanted %v", c, l, want)
	}
	wantSource(t, want, numbered(c))
}

// wantSource asks for the clause of code.
func wantSource(t *testing.T, l []api.Instr, want api.Clause) {
	t.Helper()
	if c, is := code.Source(l); !is || !sameClause(c, want) {
		t.Fatalf("of %v\ntold   %v %v\nwanted %v", l, c, is, want)
	}
}

// wantNone asks that there is no clause of code.
func wantNone(t *testing.T, l ...api.Instr) {
	t.Helper()
	if c, is := code.Source(l); is || len(c.Head) > 0 || len(c.Body) > 0 {
		t.Fatalf("of %v told %v %v", l, c, is)
	}
}

// wantErrArg asks that a clause may not be.
func wantErrArg(t *testing.T, c api.Clause) {
	t.Helper()
	if l, e := code.Compile(c); e != api.ErrArg || len(l) > 0 {
		t.Fatalf("of %v told %v %v", c, l, e)
	}
}

// source makes clauses and code from a fixed seed.
type source struct{ *rand.Rand }

func seeded(n uint64) source { return source{rand.New(rand.NewPCG(n, 101))} }

func (from source) just(l ...string) string { return l[from.IntN(len(l))] }

func (from source) coin() bool { return from.IntN(2) == 0 }

// argument is a small term of few variables.
func (from source) argument(deep int) []api.Cell {
	switch kind := from.IntN(6 + 3*deep); {
	case kind < 4:
		return variable([]int{0, 1, 2, 3, 999}[from.IntN(5)])
	case kind < 5:
		return number(from.IntN(5) - 2)
	case kind < 6 || deep == 0:
		return fun(from.just("a", "b"))
	}
	args := make([][]api.Cell, 1+from.IntN(3))
	for i := range args {
		args[i] = from.argument(deep - 1)
	}
	return fun(from.just("f", "p", "-"), args...)
}

func (from source) atom() []api.Cell {
	args := make([][]api.Cell, from.IntN(5))
	for i := range args {
		args[i] = from.argument(from.IntN(4))
	}
	return fun(from.just("p", "q", "B", "="), args...)
}

// clause is one with up to so many literals.
func (from source) clause(most int) api.Clause {
	c := clause(from.atom())
	for range from.IntN(most + 1) {
		c.Body = append(c.Body, api.Lit{Neg: from.coin(), T: from.atom()})
	}
	return c
}

// big is an atom of just so many cells, with any of so many variables.
func (from source) big(cells int, vars int) []api.Cell {
	t, free := fun("p"), api.MaxArity
	for len(t) < cells {
		at := from.IntN(len(t))
		if t[at].Kind != api.Fun || t[at].N == api.MaxArity {
			continue
		}
		// One more argument, ahead of those that the Fun has. Some Fun must be free for one more.
		one := variable(from.IntN(vars))
		if free == 1 || from.coin() {
			one = fun("f")
			free += api.MaxArity
		}
		free--
		t[at].N++
		t = slices.Insert(t, at+1, one...)
	}
	return t
}

// extreme is a number that is seldom a register.
func (from source) extreme() int {
	return []int{0, 0, 1, 2, 3, 4, 5, 6, 7, -1, 30, 1000, api.MaxInt, api.MaxInt + 1, -1 << 63, 1<<63 - 1}[from.IntN(16)]
}

// wild is an instruction, whatever it is.
func (from source) wild() api.Instr {
	return api.Instr{
		Op: from.IntN(16) - 1, X: from.extreme(), A: from.extreme(), N: from.extreme(), Neg: from.IntN(4) == 0,
		Name: from.just("", "", "a", "p", "it's", "\xff", "thirteenbytes"),
	}
}

// spoilt is code in which one thing, or a few, are not as they were.
func (from source) spoilt(l []api.Instr) []api.Instr {
	to := slices.Clone(l)
	for range 1 + from.IntN(2)*from.IntN(3) {
		at := from.IntN(len(to) + 1)
		if len(to) == 0 || at == len(to) {
			to = append(to, from.other(to))
			continue
		}
		switch from.IntN(6) {
		case 0:
			to = slices.Delete(to, at, at+1)
		case 1:
			to = slices.Insert(to, at, from.other(to))
		case 2:
			to[at] = from.other(to)
		case 3:
			other := from.IntN(len(to))
			to[at], to[other] = to[other], to[at]
		default:
			to[at] = from.changed(to[at])
		}
	}
	return to
}

// other is any instruction, or one of some.
func (from source) other(l []api.Instr) api.Instr {
	if len(l) == 0 || from.IntN(4) == 0 {
		return from.wild()
	}
	return l[from.IntN(len(l))]
}

// changed is an instruction with one field as it was not.
func (from source) changed(i api.Instr) api.Instr {
	step := []int{-2, -1, 1, 2}[from.IntN(4)]
	switch from.IntN(7) {
	case 0:
		i.Op = i.Op + step
	case 1:
		i.X = i.X + step
	case 2:
		i.A = i.A + step
	case 3:
		i.N = i.N + step
	case 4:
		i.Name = from.just("", "a", "f", "p", i.Name+"x")
	case 5:
		i.Neg = !i.Neg
	default:
		i.X, i.A = i.A, i.X
	}
	return i
}
