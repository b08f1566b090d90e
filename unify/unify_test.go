package unify_test

import (
	"slices"
	"testing"

	"sorrel/api"
	"sorrel/unify"
)

// P3.1, C1: ordinary terms, and the chapter's examples.
func TestMgu(t *testing.T) {
	a, b, x := fun("a"), fun("b"), variable
	for _, c := range []struct {
		a, b []api.Cell
		want []api.Bind
	}{
		{fun("f", x(0), b), fun("f", fun("c"), x(1)), binds(bind(0, fun("c")), bind(1, b))},
		{fun("f", x(1), x(0)), fun("f", x(0), x(1)), binds(bind(1, x(0)))},
		{a, a, nil}, {number(7), number(7), nil}, {number(-api.MaxInt), number(-api.MaxInt), nil}, {x(0), x(0), nil}, {x(999), x(999), nil},
		{fun("f", x(5), a), fun("f", x(5), a), nil},
		{x(0), a, binds(bind(0, a))}, {x(999), number(-5), binds(bind(999, number(-5)))}, {x(0), number(0), binds(bind(0, number(0)))},
		{x(0), fun("s", x(1)), binds(bind(0, fun("s", x(1))))}, {x(1), fun("s", x(0)), binds(bind(1, fun("s", x(0))))},
		// Numbers are not variables, of whatever number.
		{fun("f", x(0), number(1)), fun("f", number(1), x(1)), binds(bind(0, number(1)), bind(1, number(1)))},
		{fun("f", x(2), number(3), x(3)), fun("f", number(3), number(3), a), binds(bind(2, number(3)), bind(3, a))},
		// What is bound goes into what is bound, ahead of it and behind it.
		{fun("f", x(0), x(1)), fun("f", fun("g", x(1)), fun("h", x(2))), binds(bind(0, fun("g", fun("h", x(2)))), bind(1, fun("h", x(2))))},
		{fun("f", x(1), x(0)), fun("f", fun("g", x(0)), fun("h", x(2))), binds(bind(0, fun("h", x(2))), bind(1, fun("g", fun("h", x(2)))))},
		{fun("f", fun("g", x(0), x(1)), x(1)), fun("f", fun("g", x(2), x(3)), fun("h", x(2))), binds(bind(1, fun("h", x(0))), bind(2, x(0)), bind(3, fun("h", x(0))))},
		// All six parts, and parts that are not the last ones have parts themselves.
		{fun("f", x(6), x(5), x(4), x(3), x(2), x(1)), fun("f", a, number(1), fun("g", a), b, number(2), fun("g", b)), binds(bind(1, fun("g", b)), bind(2, number(2)), bind(3, b), bind(4, fun("g", a)), bind(5, number(1)), bind(6, a))},
		{fun("f", fun("g", x(0), a), fun("g", b, x(1)), x(2)), fun("f", fun("g", b, a), fun("g", b, a), fun("g", x(0), x(1))), binds(bind(0, b), bind(1, a), bind(2, fun("g", b, a)))},
	} {
		wantMgu(t, c.a, c.b, c.want, api.OK)
	}
}

// P3.1, C1: the same variable at several places, in one term and in both.
func TestMguSameVariable(t *testing.T) {
	a, b, x := fun("a"), fun("b"), variable
	for _, c := range []struct {
		a, b []api.Cell
		want []api.Bind
		e    api.Errno
	}{
		{fun("f", x(0), x(0)), fun("f", a, a), binds(bind(0, a)), api.OK},
		{fun("f", x(0), x(0)), fun("f", a, b), nil, api.ErrNone},
		{fun("f", x(0), x(0)), fun("f", a, x(1)), binds(bind(0, a), bind(1, a)), api.OK},
		{fun("f", x(0), x(0)), fun("f", x(2), x(1)), binds(bind(1, x(0)), bind(2, x(0))), api.OK},
		{fun("f", x(9), x(9), x(9)), fun("f", x(2), x(1), x(9)), binds(bind(2, x(1)), bind(9, x(1))), api.OK},
		{fun("f", x(0), x(0)), fun("f", fun("g", x(1), a), fun("g", b, x(2))), binds(bind(0, fun("g", b, a)), bind(1, b), bind(2, a)), api.OK},
		{fun("f", x(0), x(0)), fun("f", fun("g", x(1), a), fun("g", b, x(1))), nil, api.ErrNone},
		{fun("f", x(0), a), fun("f", b, x(0)), nil, api.ErrNone},
		{fun("f", x(0), x(1), a), fun("f", x(1), x(2), x(0)), binds(bind(0, a), bind(1, a), bind(2, a)), api.OK},
		{fun("f", x(0), x(1), x(0)), fun("f", x(1), a, b), nil, api.ErrNone},
		{fun("f", x(0), x(1), x(2)), fun("f", fun("g", x(1)), fun("g", x(2)), x(3)), binds(bind(0, fun("g", fun("g", x(2)))), bind(1, fun("g", x(2))), bind(3, x(2))), api.OK},
	} {
		wantMgu(t, c.a, c.b, c.want, c.e)
	}
}

// P3.1, C1: a class of variables alone has the one of the least number, in whatever order they are joined.
func TestMguLeast(t *testing.T) {
	x := variable
	for _, c := range []struct {
		a, b []api.Cell
		want []api.Bind
	}{
		{x(3), x(1), binds(bind(3, x(1)))}, {x(1), x(3), binds(bind(3, x(1)))}, {x(0), x(999), binds(bind(999, x(0)))},
		{fun("f", x(2), x(1), x(0)), fun("f", x(1), x(0), x(2)), binds(bind(1, x(0)), bind(2, x(0)))},
		{fun("f", x(5), x(7)), fun("f", x(6), x(8)), binds(bind(6, x(5)), bind(8, x(7)))},
		{fun("f", x(5), x(7), x(8)), fun("f", x(6), x(8), x(6)), binds(bind(6, x(5)), bind(7, x(5)), bind(8, x(5)))},
		{fun("f", x(8), x(7), x(3)), fun("f", x(9), x(9), x(8)), binds(bind(7, x(3)), bind(8, x(3)), bind(9, x(3)))},
		// The least one stands within the terms of others, too.
		{fun("f", x(0), x(9), x(4)), fun("f", fun("g", x(9)), x(4), x(6)), binds(bind(0, fun("g", x(4))), bind(6, x(4)), bind(9, x(4)))},
	} {
		wantMgu(t, c.a, c.b, c.want, api.OK)
	}
	// Six of them, joined in all orders of a chain.
	chain := []int{1, 4, 5, 7, 8, 9}
	var turns func(done []int)
	turns = func(done []int) {
		if len(done) == len(chain) {
			var l, m [][]api.Cell
			for i := range len(done) - 1 {
				l, m = append(l, x(done[i])), append(m, x(done[i+1]))
			}
			wantMgu(t, fun("f", l...), fun("f", m...), binds(bind(4, x(1)), bind(5, x(1)), bind(7, x(1)), bind(8, x(1)), bind(9, x(1))), api.OK)
			return
		}
		for _, v := range chain {
			if !slices.Contains(done, v) {
				turns(append(slices.Clone(done), v))
			}
		}
	}
	turns(nil)
}

// P3.1, C1: what clashes by its cells: at first, within, and by way of variables.
func TestMguClash(t *testing.T) {
	x := variable
	for _, c := range [][2][]api.Cell{
		{fun("a"), number(0)}, {fun("a"), number(1)}, {fun("f", fun("a")), number(1)}, {number(1), number(2)}, {number(1), number(-1)}, {number(0), number(api.MaxInt)},
		{fun("a"), fun("b")}, {fun("a"), fun("a", fun("a"))}, {fun("f", x(0)), fun("f", x(0), x(0))}, {fun("f", x(0)), fun("g", x(0))}, {fun("f", x(0), x(1)), fun("g", x(0), x(1))},
		{fun("f", x(0)), fun("f", x(0), x(1))}, {fun("a"), fun("aa")}, {fun("a"), fun("A")}, {fun("1"), number(1)},
	} {
		wantMgu(t, c[0], c[1], nil, api.ErrNone)
		for _, rest := range [][2][]api.Cell{{fun("a"), fun("a")}, {x(5), fun("b")}, {fun("b"), x(5)}, {x(5), x(6)}, {fun("g", x(5), x(6)), fun("g", x(7), fun("a"))}} {
			wantMgu(t, fun("f", c[0], rest[0]), fun("f", c[1], rest[1]), nil, api.ErrNone)
			wantMgu(t, fun("f", rest[0], c[0]), fun("f", rest[1], c[1]), nil, api.ErrNone)
			wantMgu(t, fun("f", rest[0], nest(9, c[0]), rest[1]), fun("f", rest[1], nest(9, c[1]), rest[0]), nil, api.ErrNone)
		}
		// Both are bound to one variable, or to two that are one.
		wantMgu(t, fun("f", x(7), x(7)), fun("f", c[0], c[1]), nil, api.ErrNone)
		wantMgu(t, fun("f", x(7), c[1]), fun("f", c[0], x(7)), nil, api.ErrNone)
		wantMgu(t, fun("f", x(7), x(8), x(7)), fun("f", c[0], c[1], x(8)), nil, api.ErrNone)
		wantMgu(t, fun("f", x(7), x(7), x(8)), fun("f", x(8), c[0], c[1]), nil, api.ErrNone)
	}
}

// P3.1, C1: a class that is within itself.
func TestMguWithin(t *testing.T) {
	a, x := fun("a"), variable
	for _, c := range [][2][]api.Cell{
		// At first.
		{x(0), fun("s", x(0))}, {x(0), nest(50, x(0))}, {x(0), fun("f", a, number(0), fun("g", a, x(0), a))}, {x(3), fun("f", x(1), x(2), x(3))}, {x(3), fun("f", x(3), x(2), x(1))},
		{fun("f", x(0)), fun("f", fun("f", x(0)))}, {fun("f", x(0), x(1)), fun("f", x(1), fun("s", x(0)))}, {fun("f", x(0), x(0)), fun("f", x(1), fun("s", x(1)))},
		// Only by way of other classes.
		{fun("f", x(0), x(1)), fun("f", fun("s", x(1)), fun("s", x(0)))},
		{fun("f", x(0), x(1), x(2)), fun("f", fun("g", a, x(1)), fun("g", x(2), a), fun("s", x(0)))},
		{fun("f", x(0), x(1), x(2), x(3)), fun("f", fun("s", x(1)), fun("s", x(2)), fun("s", x(3)), fun("s", x(0)))},
		{fun("f", x(0), x(1), x(2), x(2)), fun("f", fun("s", x(1)), fun("s", x(0)), a, a)},
		{fun("f", x(0), fun("s", x(0))), fun("f", fun("s", x(1)), x(1))},
		{fun("f", x(0), x(0)), fun("f", fun("g", x(1), x(2)), fun("g", x(2), fun("s", x(1))))},
		// A class of two Funs, of which only the parts together lead back.
		{fun("f", x(0), x(0), x(1)), fun("f", fun("g", x(1), a), fun("g", a, x(2)), x(0))},
		{fun("f", x(0), x(0), x(1)), fun("f", fun("g", x(3), x(1)), fun("g", x(4), x(2)), fun("s", x(0)))},
		// One that no variable's term is needed for.
		{fun("f", x(0), a, a), fun("f", fun("s", x(0)), a, a)},
	} {
		wantMgu(t, c[0], c[1], nil, api.ErrNone)
		wantMgu(t, fun("f", c[0], x(9)), fun("f", c[1], a), nil, api.ErrNone)
		wantMgu(t, fun("f", x(9), c[0]), fun("f", a, c[1]), nil, api.ErrNone)
	}
	// A class that is met twice, or that is beside itself, is not within itself.
	wantMgu(t, x(0), fun("f", x(1), x(1)), binds(bind(0, fun("f", x(1), x(1)))), api.OK)
	wantMgu(t, fun("f", x(0), fun("g", x(1), x(1))), fun("f", fun("g", x(2), x(2)), x(0)), binds(bind(0, fun("g", x(1), x(1))), bind(2, x(1))), api.OK)
	wantMgu(t, fun("f", x(0), x(1)), fun("f", fun("s", x(1)), x(2)), binds(bind(0, fun("s", x(1))), bind(2, x(1))), api.OK)
	wantMgu(t, fun("s", x(0)), fun("s", x(0)), nil, api.OK)
}

// P3.1, C1: a variable's term may come to 200 cells, not to 201; what no variable is bound to is not asked.
func TestMguLengths(t *testing.T) {
	x := variable
	for cells := 197; cells <= 203; cells++ {
		e := api.OK
		if cells > 200 {
			e = api.ErrBig
		}
		want := func(l ...api.Bind) []api.Bind {
			if e != api.OK {
				return nil
			}
			return l
		}
		// A hundred cells around a rest that comes from the other side, or from the same one.
		half := nest(cells-101, fun("a"))
		wantMgu(t, fun("f", x(0), half), fun("f", nest(100, x(1)), x(1)), want(bind(0, nest(cells-1, fun("a"))), bind(1, half)), e)
		wantMgu(t, fun("f", x(1), half), fun("f", nest(100, x(0)), x(0)), want(bind(0, half), bind(1, nest(cells-1, fun("a")))), e)
		wantMgu(t, fun("f", half, x(0)), fun("f", x(1), nest(100, x(1))), want(bind(0, nest(cells-1, fun("a"))), bind(1, half)), e)
		free := nest(cells-101, x(2))
		wantMgu(t, fun("f", x(0), free), fun("f", nest(100, x(1)), x(1)), want(bind(0, nest(cells-1, x(2))), bind(1, free)), e)
		// A rest that stands there six times.
		wide := nest((cells-1)/6-1, fun("a"))
		last := nest(cells-2-5*len(wide), fun("a"))
		wantMgu(t, fun("f", x(0), x(1), x(2)), fun("f", fun("g", x(1), x(1), x(1), x(1), x(1), x(2)), wide, last),
			want(bind(0, fun("g", wide, wide, wide, wide, wide, last)), bind(1, wide), bind(2, last)), e)
		// Both terms get too long themselves, and that of a Fun within them: no variable is bound to those.
		wantMgu(t, fun("f", nest(90, x(0)), x(0)), fun("f", nest(90, x(1)), nest(cells-100, fun("a"))), binds(bind(0, nest(cells-100, fun("a"))), bind(1, nest(cells-100, fun("a")))), api.OK)
		wantMgu(t, fun("f", fun("g", x(0), x(0), x(0)), x(0)), fun("f", fun("g", x(1), x(1), x(1)), nest(cells-100, number(1))), binds(bind(0, nest(cells-100, number(1))), bind(1, nest(cells-100, number(1)))), api.OK)
		// If a variable is bound to such a Fun, it is.
		rest := nest(cells-100, fun("a"))
		wantMgu(t, fun("f", nest(99, x(0)), x(0), x(9)), fun("f", x(9), rest, x(9)), want(bind(0, rest), bind(9, nest(cells-1, fun("a")))), e)
		fifty := nest(50, fun("a"))
		filled := func(t []api.Cell) []api.Cell { return fun("g", t, t, nest(cells-104, number(1))) }
		wantMgu(t, fun("f", x(5), x(6), fun("a")), fun("f", filled(x(6)), nest(50, x(7)), x(7)), want(bind(5, filled(fifty)), bind(6, fifty), bind(7, fun("a"))), e)
	}
	whole := nest(199, x(1))
	wantMgu(t, x(0), whole, binds(bind(0, whole)), api.OK)
	wantMgu(t, whole, nest(199, number(4)), binds(bind(1, number(4))), api.OK)
}

// P3.1, C1: terms that double from one to the next one, far beyond what could be laid.
func TestMguDoubling(t *testing.T) {
	var l, m [][]api.Cell
	for i := range 30 {
		l, m = append(l, variable(i)), append(m, fun("g", variable(i+1), variable(i+1)))
	}
	wantMgu(t, row(l...), row(m...), nil, api.ErrBig)
	wantMgu(t, row(append(l, variable(30))...), row(append(m, variable(30))...), nil, api.ErrBig)
	// 6 of them are 127 cells, 7 are 255.
	if s, e := unify.Mgu(row(l[24:]...), row(m[24:]...)); e != api.OK || len(s) != 6 || len(s[0].T) != 127 || len(s[5].T) != 3 {
		t.Error(s, e)
	}
	wantMgu(t, row(l[23:]...), row(m[23:]...), nil, api.ErrBig)
	// A clash, whether by cells or within itself, is told ahead of that, wherever it stands.
	for _, c := range [][2][]api.Cell{{fun("a"), fun("b")}, {number(1), fun("a")}, {variable(99), fun("s", variable(99))}, {variable(30), fun("s", variable(0))}, {variable(30), fun("s", variable(29))}} {
		wantMgu(t, row(append(l, c[0])...), row(append(m, c[1])...), nil, api.ErrNone)
		wantMgu(t, row(append([][]api.Cell{c[0]}, l...)...), row(append([][]api.Cell{c[1]}, m...)...), nil, api.ErrNone)
	}
	// Six times as much from one to the next one: such sizes do not go into 64 bits.
	for levels := 2; levels <= 45; levels++ {
		var sides [2][][]api.Cell
		for i := range levels {
			six := fun("g", slices.Repeat([][]api.Cell{variable(i + 1)}, 6)...)
			sides[i%2] = append(sides[i%2], variable(i))
			sides[1-i%2] = append(sides[1-i%2], six)
		}
		if levels > 2 {
			wantMgu(t, row(sides[0]...), row(sides[1]...), nil, api.ErrBig)
		} else if s, e := unify.Mgu(row(sides[0]...), row(sides[1]...)); e != api.OK || len(s) != 2 || len(s[0].T) != 43 || len(s[1].T) != 7 {
			t.Error(s, e)
		}
	}
	// Two that double beside one another: places are many more than classes.
	for i := range 25 {
		l = append(l, variable(50+i))
		m = append(m, fun("g", variable(51+i), variable(51+i)))
	}
	wantMgu(t, fun("f", row(l...), variable(0)), fun("f", row(m...), variable(50)), nil, api.ErrBig)
}

// P3.1, C2.
func TestMatch(t *testing.T) {
	a, b, x := fun("a"), fun("b"), variable
	for _, c := range []struct {
		p, t []api.Cell
		want []api.Bind
	}{
		{fun("f", x(0), x(1)), fun("f", x(1), x(0)), binds(bind(0, x(1)), bind(1, x(0)))},
		{fun("f", x(1), x(0)), fun("f", a, b), binds(bind(0, b), bind(1, a))},
		{a, a, nil}, {number(3), number(3), nil}, {x(0), a, binds(bind(0, a))}, {x(999), number(-1), binds(bind(999, number(-1)))},
		{fun("f", x(0), x(0)), fun("f", a, a), binds(bind(0, a))}, {fun("f", x(0), x(0)), fun("f", x(1), x(1)), binds(bind(0, x(1)))},
		{fun("f", x(0), x(0)), fun("f", fun("g", x(2), b), fun("g", x(2), b)), binds(bind(0, fun("g", x(2), b)))},
		{fun("f", x(0), a, x(2)), fun("f", fun("g", a, b), a, number(2)), binds(bind(0, fun("g", a, b)), bind(2, number(2)))},
		{fun("f", fun("g", x(4), b), x(3), x(4)), fun("f", fun("g", nest(9, a), b), x(8), nest(9, a)), binds(bind(3, x(8)), bind(4, nest(9, a)))},
		// Variables of t are what they are, even if p has the same ones.
		{x(0), fun("s", x(0)), binds(bind(0, fun("s", x(0))))}, {fun("f", x(0), x(1)), fun("f", fun("g", x(1)), fun("g", x(0))), binds(bind(0, fun("g", x(1))), bind(1, fun("g", x(0))))},
		{fun("f", x(0), x(1), x(2)), fun("f", x(1), x(2), x(0)), binds(bind(0, x(1)), bind(1, x(2)), bind(2, x(0)))},
		{fun("f", x(0), x(1), x(0)), fun("f", x(1), x(0), x(1)), binds(bind(0, x(1)), bind(1, x(0)))},
		// What would be bound to itself is left out.
		{x(0), x(0), nil}, {x(999), x(999), nil}, {fun("f", x(0), x(0)), fun("f", x(0), x(0)), nil}, {fun("f", x(0), x(1)), fun("f", x(0), a), binds(bind(1, a))},
		{fun("f", x(2), x(1), x(0)), fun("f", x(2), x(0), x(0)), binds(bind(1, x(0)))}, {fun("f", x(1), fun("g", x(2))), fun("f", x(1), fun("g", x(2))), nil},
		// Whole terms at the limit.
		{x(1), nest(199, x(1)), binds(bind(1, nest(199, x(1))))}, {nest(199, x(1)), nest(199, a), binds(bind(1, a))}, {nest(100, x(1)), nest(199, a), binds(bind(1, nest(99, a)))}, {nest(199, x(1)), nest(199, x(1)), nil},
	} {
		wantMatch(t, c.p, c.t, c.want, true)
		if got := put(t, c.want, c.p); !same(got, c.t) {
			t.Error(c.p, got)
		}
	}
}

// P3.1, C2: none, where no bindings of p's variables make t of p.
func TestMatchNone(t *testing.T) {
	a, b, x := fun("a"), fun("b"), variable
	for _, c := range [][2][]api.Cell{
		{a, b}, {a, number(1)}, {number(1), a}, {number(1), number(2)}, {fun("f", a), fun("g", a)}, {fun("f", a), fun("f", a, a)}, {a, fun("a", a)}, {fun("a", a), a}, {fun("a", x(0)), a},
		// It goes one way.
		{a, x(0)}, {number(0), x(0)}, {fun("s", x(0)), x(0)}, {fun("s", x(0)), x(1)}, {fun("f", a), fun("f", x(0))}, {fun("f", x(0), a), fun("f", a, x(0))}, {fun("f", x(0), a), fun("f", b, x(1))},
		// One variable, two terms; one of these is the variable itself.
		{fun("f", x(0), x(0)), fun("f", a, b)}, {fun("f", x(0), x(0)), fun("f", x(0), x(1))}, {fun("f", x(0), x(0)), fun("f", x(1), x(0))}, {fun("f", x(0), x(0)), fun("f", x(0), a)}, {fun("f", x(0), x(0)), fun("f", a, x(0))},
		{fun("f", x(0), x(1), x(0)), fun("f", a, b, b)}, {fun("f", x(0), x(0)), fun("f", fun("g", a, b), fun("g", a, a))}, {fun("f", x(0), x(0)), fun("f", number(0), x(0))}, {fun("f", x(0), x(0)), fun("f", nest(9, a), nest(8, a))},
		{fun("f", x(0), fun("g", x(0))), fun("f", fun("g", x(0)), x(0))}, {fun("f", x(0), b), fun("f", a, a)}, {nest(190, x(0)), nest(189, x(0))}, {nest(190, x(0)), nest(189, a)},
	} {
		wantMatch(t, c[0], c[1], nil, false)
		wantMatch(t, fun("f", x(5), c[0]), fun("f", a, c[1]), nil, false)
		wantMatch(t, fun("f", c[0], x(5)), fun("f", c[1], x(5)), nil, false)
	}
}

// P3.1, C3.
func TestVariant(t *testing.T) {
	a, b, x := fun("a"), fun("b"), variable
	for _, c := range [][2][]api.Cell{
		{a, a}, {number(3), number(3)}, {x(0), x(0)}, {x(0), x(999)}, {fun("f", x(1), x(2)), fun("f", x(2), x(1))}, {fun("f", x(1), x(2)), fun("f", x(3), x(4))}, {fun("f", x(1), x(2)), fun("f", x(2), x(3))},
		{fun("f", x(1), x(1)), fun("f", x(2), x(2))}, {fun("f", x(0), x(1), x(0)), fun("f", x(1), x(0), x(1))}, {fun("f", x(0), x(1), x(2)), fun("f", x(2), x(0), x(1))},
		{fun("f", fun("g", x(4), a), x(4), x(2)), fun("f", fun("g", x(2), a), x(2), x(4))}, {nest(199, x(1)), nest(199, x(2))},
	} {
		wantVariant(t, c[0], c[1], true)
	}
	for _, c := range [][2][]api.Cell{
		// Variables that are paired one with two, whichever term has the one.
		{fun("f", x(1), x(1)), fun("f", x(2), x(1))}, {fun("f", x(1), x(1)), fun("f", x(1), x(2))}, {fun("f", x(0), x(1)), fun("f", x(0), x(0))}, {fun("f", x(0), x(1), x(0)), fun("f", x(0), x(1), x(2))},
		{fun("f", x(0), x(1), x(0)), fun("f", x(0), x(1), x(1))}, {fun("f", x(0), x(1), x(2)), fun("f", x(3), x(4), x(3))}, {fun("f", fun("g", x(3)), x(3)), fun("f", fun("g", x(3)), x(4))},
		// Unlike in other cells.
		{a, b}, {a, x(0)}, {number(1), x(1)}, {number(0), x(0)}, {number(1), a}, {number(1), number(2)}, {a, fun("a", a)}, {fun("f", x(0), a), fun("f", x(0), b)}, {fun("f", x(0), a), fun("f", x(0), x(1))},
		{fun("f", x(0)), fun("f", x(0), x(0))}, {fun("f", x(0)), fun("g", x(0))}, {fun("f", x(0), x(1)), fun("f", x(1), fun("s", x(0)))}, {x(0), fun("s", x(0))}, {nest(199, x(1)), nest(198, x(1))}, {nest(199, x(1)), nest(199, number(0))},
	} {
		wantVariant(t, c[0], c[1], false)
	}
}
