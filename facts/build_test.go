package facts_test

import (
	"math/rand/v2"
	"slices"
	"testing"

	"sorrel/api"
	"sorrel/facts"
	"sorrel/read"
)

func variable(n int) []api.Cell { return []api.Cell{{Kind: api.Var, N: n}} }

func number(n int) []api.Cell { return []api.Cell{{Kind: api.Int, N: n}} }

func fun(name string, args ...[]api.Cell) []api.Cell {
	return append([]api.Cell{{Kind: api.Fun, Name: name, N: len(args)}}, slices.Concat(args...)...)
}

// nest is a term in as many Funs of one argument.
func nest(times int, t []api.Cell) []api.Cell {
	return append(slices.Repeat([]api.Cell{{Kind: api.Fun, Name: "s", N: 1}}, times), t...)
}

// wide is an atom of so many cells, at least 8 and all but few of which are numbers in its arguments.
func wide(cells int) []api.Cell {
	t := []api.Cell{{Kind: api.Fun, Name: "w", N: 6}}
	rest := cells - 1
	for left := 6; left > 0; left-- {
		// Six arguments of at most 43 cells each.
		t = append(t, block(rest/left)...)
		rest -= rest / left
	}
	return t
}

// block is a ground term of so many cells, 1 to 43.
func block(cells int) []api.Cell {
	if cells == 1 {
		return number(cells)
	}
	many := min(6, cells-1)
	t := []api.Cell{{Kind: api.Fun, Name: "b", N: many}}
	rest := cells - 1
	for left := many; left > 0; left-- {
		t = append(t, block(rest/left)...)
		rest -= rest / left
	}
	return t
}

// term is what a text says.
func term(t *testing.T, s string) []api.Cell {
	t.Helper()
	l, _, at, e := read.Term(s)
	if e != api.OK {
		t.Fatal(s, at, e)
	}
	return l
}

// terms are what texts say.
func terms(t *testing.T, l ...string) [][]api.Cell {
	t.Helper()
	var all [][]api.Cell
	for _, s := range l {
		all = append(all, term(t, s))
	}
	return all
}

func same(a [][]api.Cell, b [][]api.Cell) bool { return slices.EqualFunc(a, b, slices.Equal) }

// copied is a row that shares nothing with l.
func copied(l [][]api.Cell) [][]api.Cell {
	var to [][]api.Cell
	for _, t := range l {
		to = append(to, slices.Clone(t))
	}
	return to
}

// want asks for a row, and that it may be.
func want(t *testing.T, got [][]api.Cell, l ...[]api.Cell) {
	t.Helper()
	if !same(got, l) || !facts.Right(got) {
		t.Fatalf("told %v, wanted %v", got, l)
	}
}

// row is what adding l, one behind the other, makes of nothing.
func row(t *testing.T, l ...[]api.Cell) [][]api.Cell {
	t.Helper()
	var to [][]api.Cell
	for _, x := range l {
		next, e := facts.Add(to, x)
		if e != api.OK {
			t.Fatal(x, e)
		}
		to = next
	}
	return to
}

// numbered are the facts p(0), p(1) and on.
func numbered(many int) [][]api.Cell {
	var l [][]api.Cell
	for i := range many {
		l = append(l, fun("p", number(i)))
	}
	return l
}

// source makes facts, rows and calls from a fixed seed.
type source struct{ *rand.Rand }

func seeded(n uint64) source { return source{rand.New(rand.NewPCG(n, 121))} }

func (from source) just(l ...string) string { return l[from.IntN(len(l))] }

func (from source) coin() bool { return from.IntN(2) == 0 }

// argument is a small term; with variables, if there are to be any.
func (from source) argument(deep int, free bool) []api.Cell {
	switch kind := from.IntN(6 + 2*deep); {
	case kind < 3 && free:
		return variable([]int{0, 1, 2, 999}[from.IntN(4)])
	case kind < 4:
		return number(from.IntN(4) - 1)
	case kind < 6 || deep == 0:
		return fun(from.just("a", "b"))
	}
	args := make([][]api.Cell, 1+from.IntN(2))
	for i := range args {
		args[i] = from.argument(deep-1, free)
	}
	return fun(from.just("f", "p", "-"), args...)
}

// atom is one of few predicates.
func (from source) atom(free bool) []api.Cell {
	args := make([][]api.Cell, from.IntN(4))
	for i := range args {
		args[i] = from.argument(from.IntN(3), free)
	}
	return fun(from.just("p", "q", "B", "=", "pp"), args...)
}

func (from source) fact() []api.Cell { return from.atom(false) }

// call is an atom; now and then its arguments are all variables, or there are none.
func (from source) call() []api.Cell {
	if from.IntN(4) > 0 {
		return from.atom(from.IntN(5) > 0)
	}
	args := make([][]api.Cell, from.IntN(4))
	for i := range args {
		args[i] = variable(from.IntN(1 + len(args)))
	}
	return fun(from.just("p", "q", "B"), args...)
}

// wider is a fact, in the place of some of whose parts variables stand.
func (from source) wider(t []api.Cell) []api.Cell {
	at := 1
	var part func() []api.Cell
	part = func() []api.Cell {
		first := t[at]
		at++
		made := []api.Cell{first}
		if first.Kind == api.Fun {
			for range first.N {
				made = append(made, part()...)
			}
		}
		if from.IntN(3) == 0 {
			return variable(from.IntN(8))
		}
		return made
	}
	made := t[:1:1]
	for range t[0].N {
		made = append(made, part()...)
	}
	return made
}

// row is a row that may be, of up to so many facts.
func (from source) row(t *testing.T, many int) [][]api.Cell {
	t.Helper()
	var l [][]api.Cell
	for range from.IntN(many + 1) {
		l = append(l, from.fact())
	}
	return sorted(l)
}

func (from source) shuffled(l [][]api.Cell) [][]api.Cell {
	to := slices.Clone(l)
	from.Shuffle(len(to), func(i int, j int) { to[i], to[j] = to[j], to[i] })
	return to
}

// wild is a row of cells, whatever they are.
func (from source) wild() []api.Cell {
	t := make([]api.Cell, from.IntN(5))
	for i := range t {
		t[i] = api.Cell{
			Kind: from.IntN(5),
			Name: from.just("", "", "a", "p", "it's", "\n", "\xff", "thirteenbytes"),
			N:    []int{0, 1, 2, 3, -1, 7, 1000, api.MaxInt + 1, -1 << 63, 1<<63 - 1}[from.IntN(10)],
		}
	}
	return t
}

// near is an atom, most often a fact, or one of which a cell was changed, is missing, or is too many.
func (from source) near() []api.Cell {
	t := from.atom(from.IntN(4) == 0)
	at := from.IntN(len(t))
	switch from.IntN(8) {
	case 0:
		t[at].N += from.IntN(3) - 1
	case 1:
		t[at].Name = from.just("", "a", "it's", "\x1f", "\x7f", "twelve bytes", "thirteenbytes")
	case 2:
		t[at].Kind = from.IntN(5)
	case 3:
		return t[:len(t)-1]
	case 4:
		return append(t, api.Cell{Kind: api.Int})
	case 5:
		return nest(from.IntN(14), t)
	}
	return t
}

// mixed is a row that may be, or one that was made of it by a few changes.
func (from source) mixed(t *testing.T) [][]api.Cell {
	l := from.row(t, 6)
	if len(l) == 0 || from.coin() {
		return l
	}
	at := from.IntN(len(l))
	switch from.IntN(4) {
	case 0:
		l[at] = from.near()
	case 1:
		l = slices.Insert(l, at, slices.Clone(l[at]))
	case 2:
		other := from.IntN(len(l))
		l[at], l[other] = l[other], l[at]
	case 3:
		l = append(l, from.wild())
	}
	return l
}
