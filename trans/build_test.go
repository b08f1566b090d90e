package trans_test

import (
	"math/rand/v2"
	"slices"
	"strings"
	"testing"

	"sorrel/api"
	"sorrel/read"
	"sorrel/trans"
)

func variable(n int) []api.Cell { return []api.Cell{{Kind: api.Var, N: n}} }

func number(n int) []api.Cell { return []api.Cell{{Kind: api.Int, N: n}} }

func fun(name string, args ...[]api.Cell) []api.Cell {
	return append([]api.Cell{{Kind: api.Fun, Name: name, N: len(args)}}, slices.Concat(args...)...)
}

// nest is a term in as many Funs of one argument.
func nest(times int, t []api.Cell) []api.Cell {
	return append(slices.Repeat([]api.Cell{{Kind: api.Fun, Name: "s", N: 1}}, times), t...)
}

// numbered are the facts p(0), p(1) and on.
func numbered(many int) [][]api.Cell {
	var l [][]api.Cell
	for i := range many {
		l = append(l, fun("p", number(i)))
	}
	return l
}

// noFacts are rows of cells that are no facts, each for a reason of its own.
func noFacts() [][]api.Cell {
	return [][]api.Cell{nil, {}, {{}}, variable(0), number(1), fun("p", variable(0)), fun("p", fun("f", variable(999))), fun("p", number(1))[:1], append(fun("p"), fun("p")...), fun(""), fun("it's"), fun("thirteen_byte"), fun("p", number(api.MaxInt+1)), nest(12, fun("a"))}
}

// term is what a text says.
func term(t *testing.T, s string) []api.Cell {
	t.Helper()
	l, _, at, e := read.Term(s)
	if e != api.OK {
		t.Fatal(s, at, e)
	}
	return l
}

// row are the facts of a text, with blanks between, in the order in which they stand there.
func row(t *testing.T, s string) [][]api.Cell {
	t.Helper()
	var l [][]api.Cell
	for _, word := range strings.Fields(s) {
		l = append(l, term(t, word))
	}
	return l
}

// changes are those of a text, with blanks between: +a adds a, -a drops it.
func changes(t *testing.T, s string) []api.Change {
	t.Helper()
	var l []api.Change
	for _, word := range strings.Fields(s) {
		l = append(l, api.Change{Add: word[0] == '+', T: term(t, word[1:])})
	}
	return l
}

// begun is a base of these facts with a transaction under way, which has these changes.
func begun(t *testing.T, l [][]api.Cell, todo []api.Change) api.Base {
	t.Helper()
	b, e := trans.Begin(api.Base{Facts: l, Ver: 7})
	for _, c := range todo {
		if e != api.OK {
			t.Fatal(e)
		}
		b, e = trans.Change(b, c)
	}
	if e != api.OK || !b.On || b.Ver != 7 || !same(b.Facts, l) || !sameChanges(b.Todo, todo) {
		t.Fatal(b, e)
	}
	return b
}

func same(a [][]api.Cell, b [][]api.Cell) bool { return slices.EqualFunc(a, b, slices.Equal) }

func sameChanges(a []api.Change, b []api.Change) bool {
	return slices.EqualFunc(a, b, func(x api.Change, y api.Change) bool { return x.Add == y.Add && slices.Equal(x.T, y.T) })
}

func sameBase(a api.Base, b api.Base) bool {
	return same(a.Facts, b.Facts) && a.Ver == b.Ver && a.On == b.On && sameChanges(a.Todo, b.Todo)
}

// copied is a row that shares nothing with l.
func copied(l [][]api.Cell) [][]api.Cell {
	var to [][]api.Cell
	for _, t := range l {
		to = append(to, slices.Clone(t))
	}
	return to
}

// copiedBase is a base that shares nothing with b.
func copiedBase(b api.Base) api.Base {
	todo := b.Todo
	b.Facts, b.Todo = copied(b.Facts), nil
	for _, c := range todo {
		b.Todo = append(b.Todo, api.Change{Add: c.Add, T: slices.Clone(c.T)})
	}
	return b
}

// source makes facts, changes and bases from a fixed seed.
type source struct{ *rand.Rand }

func seeded(n uint64) source { return source{rand.New(rand.NewPCG(n, 131))} }

func (from source) coin() bool { return from.IntN(2) == 0 }

// fact is one of some thirty facts.
func (from source) fact() []api.Cell {
	x := [][]api.Cell{fun("a"), fun("b"), number(from.IntN(4) - 1), fun("f", number(from.IntN(2)))}[from.IntN(4)]
	switch from.IntN(4) {
	case 0:
		return fun([]string{"a", "B", "="}[from.IntN(3)])
	case 1:
		return fun("q", x, fun("a"))
	}
	return fun([]string{"p", "r"}[from.IntN(2)], x)
}

// near is a fact, or one of which a cell was changed, is missing, or is too many.
func (from source) near() []api.Cell {
	t := from.fact()
	at := from.IntN(len(t))
	switch from.IntN(10) {
	case 0:
		t[at].N += from.IntN(3) - 1
	case 1:
		t[at].Kind = from.IntN(5)
	case 2:
		return t[:len(t)-1]
	case 3:
		return append(t, api.Cell{Kind: api.Int})
	case 4:
		return nest(from.IntN(14), t)
	case 5:
		return fun("p", variable(from.IntN(2)))
	}
	return t
}

// row is a row that may be; now and then one with little room left, or none.
func (from source) row() [][]api.Cell {
	var l [][]api.Cell
	for range from.IntN(12) {
		l = append(l, from.fact())
	}
	if from.IntN(3) == 0 {
		// None of these is one that fact makes.
		for i := range api.MaxFacts {
			l = append(l, fun("p", number(i+100)))
		}
	}
	l = sorted(l)
	many := len(l)
	for len(l) > api.MaxFacts || many > 500 && from.IntN(2) == 0 {
		at := from.IntN(len(l))
		l = slices.Delete(l, at, at+1)
	}
	return l
}

// change is of a fact; often of one that is in l.
func (from source) change(l [][]api.Cell) api.Change {
	if len(l) > 0 && from.IntN(5) < 2 {
		return api.Change{Add: from.IntN(3) == 0, T: slices.Clone(l[from.IntN(len(l))])}
	}
	return api.Change{Add: from.IntN(3) > 0, T: from.fact()}
}

// base is one that is right.
func (from source) base() api.Base {
	b := api.Base{Facts: from.row(), Ver: []int{0, 1, from.IntN(1 << 30), 1<<40 - 1}[from.IntN(4)], On: from.IntN(4) > 0}
	if b.On {
		for range from.IntN(14) {
			b.Todo = append(b.Todo, from.change(b.Facts))
		}
	}
	return b
}

// mixed is a base that is right, or one that was made of it by a change or two.
func (from source) mixed() api.Base {
	b := from.base()
	for from.coin() {
		switch from.IntN(6) {
		case 0:
			b.Ver = []int{-1, -1 << 63, 1 << 40, 1<<40 + 1, 1<<63 - 1}[from.IntN(5)]
		case 1:
			b.On = !b.On
		case 2:
			b.Todo = slices.Insert(b.Todo, from.IntN(len(b.Todo)+1), api.Change{Add: from.coin(), T: from.near()})
		case 3:
			b.Facts = slices.Insert(b.Facts, from.IntN(len(b.Facts)+1), from.near())
		case 4:
			if len(b.Facts) > 0 {
				at, other := from.IntN(len(b.Facts)), from.IntN(len(b.Facts))
				b.Facts[at], b.Facts[other] = b.Facts[other], b.Facts[at]
			}
		case 5:
			if many := len(b.Facts); many > 0 {
				b.Facts = slices.Insert(b.Facts, many, b.Facts[many-1])
			}
		}
	}
	return b
}

func (from source) shuffled(l []api.Change) []api.Change {
	to := slices.Clone(l)
	from.Shuffle(len(to), func(i int, j int) { to[i], to[j] = to[j], to[i] })
	return to
}

// must asks that there is no error, and hands the base on.
func must(t *testing.T) func(b api.Base, e api.Errno) api.Base {
	return func(b api.Base, e api.Errno) api.Base {
		t.Helper()
		if e != api.OK {
			t.Fatal(b, e)
		}
		return b
	}
}
