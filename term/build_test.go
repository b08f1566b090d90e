package term_test

import (
	"math/rand/v2"
	"slices"
	"strings"

	"sorrel/api"
)

func variable(n int) []api.Cell { return []api.Cell{{Kind: api.Var, N: n}} }

func number(n int) []api.Cell { return []api.Cell{{Kind: api.Int, N: n}} }

func fun(name string, args ...[]api.Cell) []api.Cell {
	return append([]api.Cell{{Kind: api.Fun, Name: name, N: len(args)}}, slices.Concat(args...)...)
}

// head is a Fun alone, whatever stands behind it.
func head(name string, n int) []api.Cell { return []api.Cell{{Kind: api.Fun, Name: name, N: n}} }

func join(rows ...[]api.Cell) []api.Cell { return slices.Concat(rows...) }

// nest is a term in as many Funs of one argument.
func nest(times int, t []api.Cell) []api.Cell {
	return append(slices.Repeat(head("s", 1), times), t...)
}

// example is f(X3, g(X1), X3), the chapter's own.
func example() []api.Cell { return fun("f", variable(3), fun("g", variable(1)), variable(3)) }

// terms are small ones of all kinds, some at the limits, and greater ones from a fixed seed.
func terms() [][]api.Cell {
	leaves := [][]api.Cell{
		variable(0), variable(1), variable(999), number(0), number(-1), number(api.MaxInt), number(-api.MaxInt),
		fun("a"), fun("b"), fun(" "), fun("~~~~~~~~~~~~"),
	}
	l := slices.Clone(leaves)
	for _, x := range leaves {
		l = append(l, fun("a", x), fun("g", fun("g", x)), nest(199, x))
		for _, y := range leaves {
			l = append(l, fun("f", x, y), fun("f", fun("g", x), y), fun("f", x, fun("g", y)))
		}
	}
	l = append(l, example(), fun("h", leaves[0], leaves[1], leaves[2], leaves[0], leaves[1], leaves[0]))
	return append(l, grown(300)...)
}

func grown(many int) [][]api.Cell {
	from := rand.New(rand.NewPCG(11, 7))
	var grow func(deep int) []api.Cell
	grow = func(deep int) []api.Cell {
		switch from.IntN(3 + deep) {
		case 0:
			return variable(from.IntN(5) * from.IntN(200))
		case 1:
			return number(from.IntN(9) - 4)
		}
		if deep == 0 {
			return fun(string(rune('a' + from.IntN(3))))
		}
		args := make([][]api.Cell, from.IntN(api.MaxArity+1))
		for i := range args {
			args[i] = grow(deep - 1)
		}
		return fun(strings.Repeat("k", 1+from.IntN(api.MaxName)), args...)
	}
	var l [][]api.Cell
	for len(l) < many {
		if t := grow(from.IntN(6)); len(t) <= api.MaxCells {
			l = append(l, t)
		}
	}
	return l
}

// wrong are rows that are no right term.
func wrong() [][]api.Cell {
	f := example()
	return [][]api.Cell{
		nil, {}, f[:1], f[:4], f[1:], join(f, f), join(f, number(1)), join(variable(1), variable(2)), join(fun("a"), fun("a")),
		{{}}, {{Kind: 4}}, {{Kind: -1}}, {{Kind: 4, Name: "a"}}, {{Name: "a"}}, {{Kind: 1 << 40}}, fun("f", []api.Cell{{}}), fun("f", []api.Cell{{Kind: 4, Name: "a"}}),
		variable(-1), variable(1000), variable(1 << 62), variable(-1 << 63), fun("f", variable(1000)), fun("f", variable(-1)),
		{{Kind: api.Var, Name: "x"}}, {{Kind: api.Int, Name: "x"}}, fun("f", []api.Cell{{Kind: api.Var, Name: "x"}}),
		number(1 << 31), number(-1 << 31), number(1<<63 - 1), number(-1 << 63), fun("f", number(1<<31)), fun("f", number(-1<<31)),
		head("f", -1), head("f", -1<<63), head("f", 1), head("f", 6), head("f", 7), head("f", 1<<62), join(head("f", -1), number(1)),
		fun("f", slices.Repeat([][]api.Cell{number(1)}, 7)...),
		fun(""), fun("", number(1)), fun("thirteen_byte"), fun("f", fun("")), fun("f", fun("thirteen_byte")),
		fun("\x1f"), fun("'"), fun("\x7f"), fun("\x80"), fun("\xff"), fun("\x00"), fun("ü"), fun("a'"), fun("'a"), fun("a'b"), fun("a\x1f"), fun("\x7fa"), fun("a\nb"),
		nest(200, number(0)), nest(200, nil), nest(1000, number(0)), slices.Repeat(variable(0), 201),
	}
}
