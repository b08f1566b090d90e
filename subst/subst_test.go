package subst_test

import (
	"slices"
	"testing"

	"sorrel/api"
	"sorrel/subst"
)

// P2.1, B1.
func TestRight(t *testing.T) {
	all := make([]api.Bind, 0, 1000)
	for v := range 1000 {
		all = append(all, bind(v, number(v)))
	}
	for i, s := range [][]api.Bind{
		nil, {}, binds(bind(0, fun("a"))), binds(bind(999, fun("a"))), binds(bind(0, variable(999)), bind(999, variable(0))), all,
		binds(bind(1, fun("f", variable(1)))), binds(bind(1, variable(0)), bind(2, variable(0)), bind(5, variable(0))), binds(bind(1, number(1))), binds(bind(0, number(0))),
		binds(bind(0, nest(199, variable(0)))), binds(bind(0, nest(199, number(api.MaxInt)))), binds(bind(7, fun("twelve_bytes", variable(7)))),
	} {
		if !subst.Right(s) {
			t.Error(i, s)
		}
	}
}

// P2.1, B1.
func TestRightRefuses(t *testing.T) {
	for i, s := range wrongBindings() {
		if subst.Right(s) {
			t.Error(i, s)
		}
	}
	for v := -3; v <= 1003; v++ {
		if subst.Right(binds(bind(v, fun("a")))) != (v >= 0 && v <= 999) {
			t.Error("variable", v)
		}
		if subst.Right(binds(bind(500, fun("a")), bind(v, fun("a")))) != (v > 500 && v <= 999) {
			t.Error("behind 500", v)
		}
		if subst.Right(binds(bind(500, variable(v)))) != (v >= 0 && v <= 999 && v != 500) {
			t.Error("500 by", v)
		}
	}
	for _, n := range []int{199, 200, 201} {
		if subst.Right(binds(bind(0, nest(n-1, fun("a"))))) != (n <= 200) {
			t.Error(n, "cells")
		}
	}
}

// P2.1, B2.
func TestApply(t *testing.T) {
	s := binds(bind(0, fun("g", variable(1))), bind(1, variable(0)), bind(999, number(-5)))
	for i, c := range []struct{ t, want []api.Cell }{
		{fun("f", variable(0), variable(1)), fun("f", fun("g", variable(1)), variable(0))},
		{variable(0), fun("g", variable(1))}, {variable(1), variable(0)}, {variable(999), number(-5)},
		{variable(2), variable(2)}, {variable(998), variable(998)}, {number(0), number(0)}, {number(1), number(1)}, {number(999), number(999)},
		{fun("a"), fun("a")}, {fun("f", number(1)), fun("f", number(1))}, {fun("f", variable(2), variable(3)), fun("f", variable(2), variable(3))},
		{fun("f", variable(0), fun("h", variable(999), variable(2)), variable(0)), fun("f", fun("g", variable(1)), fun("h", number(-5), variable(2)), fun("g", variable(1)))},
	} {
		if got, fits := subst.Apply(s, c.t); !fits || !same(got, c.want) {
			t.Error(i, got, fits)
		}
		if got, fits := subst.Apply(nil, c.t); !fits || !same(got, c.t) {
			t.Error(i, "without bindings", got, fits)
		}
	}
	// Each one is replaced, whatever place its binding has.
	var turn []api.Bind
	var args, want [][]api.Cell
	for v := range 6 {
		turn = append(turn, bind(v, variable((v+1)%6)))
		args, want = append(args, variable(v)), append(want, variable((v+1)%6))
	}
	if got, fits := subst.Apply(turn, fun("f", args...)); !fits || !same(got, fun("f", want...)) {
		t.Error(got, fits)
	}
}

// P2.1, B2: a term may come to 200 cells, not to 201.
func TestApplyLengths(t *testing.T) {
	for cells := 195; cells <= 205; cells++ {
		for i, c := range []struct {
			s []api.Bind
			t []api.Cell
		}{
			{binds(bind(3, nest(cells-1, fun("a")))), variable(3)},
			{binds(bind(3, nest(9, fun("a")))), nest(cells-10, variable(3))},
			{binds(bind(3, nest(cells-101, variable(3)))), nest(100, variable(3))},
			{binds(bind(3, nest(cells-151, number(1)))), fun("f", variable(3), nest(148, number(2)))},
			{binds(bind(3, nest(cells-151, number(1)))), fun("f", nest(148, number(2)), variable(3))},
			{binds(bind(0, nest(98, number(0))), bind(1, nest(cells-101, number(1)))), fun("f", variable(0), variable(1))},
			{binds(bind(0, nest(9, number(0)))), nest(cells-61, fun("f", slices.Repeat([][]api.Cell{variable(0)}, 6)...))},
		} {
			got, fits := subst.Apply(c.s, c.t)
			if fits != (cells <= 200) || fits && len(got) != cells || !fits && len(got) != 0 {
				t.Error(i, cells, len(got), fits)
			}
		}
	}
	whole := nest(199, variable(1))
	if got, fits := subst.Apply(binds(bind(0, nest(199, variable(1)))), whole); !fits || !same(got, whole) {
		t.Error("a whole term that has none of the variables", fits)
	}
	if got, fits := subst.Apply(binds(bind(1, number(5))), whole); !fits || !same(got, nest(199, number(5))) {
		t.Error("one cell for another one", fits)
	}
	// 144 variables, each by 200 cells.
	many := func(t []api.Cell, times int) []api.Cell { return fun("f", slices.Repeat([][]api.Cell{t}, times)...) }
	long := many(many(many(variable(0), 6), 6), 4)
	if got, fits := subst.Apply(binds(bind(0, nest(199, number(0)))), long); fits || got != nil {
		t.Error("far too long", len(got))
	}
}

// P2.1, B3.
func TestCompose(t *testing.T) {
	s := binds(bind(0, fun("g", variable(1))), bind(1, variable(0)))
	for i, c := range []struct{ a, b, want []api.Bind }{
		{nil, nil, nil}, {s, nil, s}, {nil, s, s}, {nil, []api.Bind{}, nil},
		// The chapter's examples: a binding becomes its own variable, and goes.
		{binds(bind(0, variable(1))), binds(bind(1, variable(0))), binds(bind(1, variable(0)))},
		{binds(bind(0, variable(1)), bind(1, variable(2))), binds(bind(2, variable(0))), binds(bind(0, variable(1)), bind(1, variable(0)), bind(2, variable(0)))},
		// One that goes keeps b's binding of its variable out all the same.
		{binds(bind(0, variable(1))), binds(bind(0, fun("a")), bind(1, variable(0))), binds(bind(1, variable(0)))},
		{binds(bind(0, variable(1)), bind(1, variable(0))), binds(bind(0, variable(1)), bind(1, variable(0))), nil},
		{binds(bind(0, variable(1))), binds(bind(1, fun("g", variable(0)))), binds(bind(0, fun("g", variable(0))), bind(1, fun("g", variable(0))))},
		// Bindings of a are first, also where b would go on from what b put in.
		{binds(bind(3, fun("f", variable(0), variable(5)))), binds(bind(0, fun("a")), bind(3, fun("b"))), binds(bind(0, fun("a")), bind(3, fun("f", fun("a"), variable(5))))},
		{binds(bind(0, variable(1))), binds(bind(1, variable(2)), bind(2, fun("a"))), binds(bind(0, variable(2)), bind(1, variable(2)), bind(2, fun("a")))},
		// By Var, rising, whichever of both they come from.
		{binds(bind(1, number(1)), bind(3, number(3)), bind(999, number(9))), binds(bind(0, number(-1)), bind(1, number(-2)), bind(2, number(-3)), bind(998, number(-4))), binds(bind(0, number(-1)), bind(1, number(1)), bind(2, number(-3)), bind(3, number(3)), bind(998, number(-4)), bind(999, number(9)))},
		{binds(bind(998, number(1))), binds(bind(0, number(2)), bind(999, number(3))), binds(bind(0, number(2)), bind(998, number(1)), bind(999, number(3)))},
		// A number is no variable.
		{binds(bind(0, number(0)), bind(1, number(2))), binds(bind(0, fun("a")), bind(2, number(1))), binds(bind(0, number(0)), bind(1, number(2)), bind(2, number(1)))},
	} {
		if got, fits := subst.Compose(c.a, c.b); !fits || !alike(got, c.want) {
			t.Error(i, got, fits)
		}
	}
}

// P2.1, B3: a T of a may come to 200 cells, not to 201; one of b is never longer than it was.
func TestComposeLengths(t *testing.T) {
	for cells := 198; cells <= 203; cells++ {
		grows := bind(5, nest(100, variable(0)))
		b := binds(bind(0, nest(cells-101, fun("a"))))
		for i, a := range [][]api.Bind{binds(grows), binds(bind(1, fun("a")), grows), binds(grows, bind(7, fun("a"))), binds(bind(0, fun("b")), grows, bind(8, variable(0)))} {
			got, fits := subst.Compose(a, b)
			if fits != (cells <= 200) || !fits && len(got) != 0 || fits && !slices.ContainsFunc(got, func(x api.Bind) bool { return x.Var == 5 && len(x.T) == cells }) {
				t.Error(i, cells, fits, got)
			}
		}
	}
	// It is not looked at what b does to b's own ones, nor at what a does to them.
	loop := binds(bind(0, nest(199, variable(0))))
	if got, fits := subst.Compose(nil, loop); !fits || !alike(got, loop) {
		t.Error(fits, got)
	}
	if got, fits := subst.Compose(binds(bind(1, fun("f", variable(2)))), loop); !fits || !alike(got, binds(loop[0], bind(1, fun("f", variable(2))))) {
		t.Error(fits, got)
	}
	if got, fits := subst.Compose(loop, loop); fits || len(got) != 0 {
		t.Error(fits, got)
	}
}

// P2.1, B4.
func TestKeep(t *testing.T) {
	s := binds(bind(0, variable(5)), bind(2, fun("a")), bind(5, fun("g", variable(2))), bind(999, number(3)))
	for i, c := range []struct {
		vars []int
		want []api.Bind
	}{
		{nil, nil}, {[]int{}, nil}, {[]int{1, 3, 4, 998, 1000, -1}, nil}, {[]int{0}, s[:1]}, {[]int{999}, s[3:]}, {[]int{999, 5, 2, 0}, s}, {[]int{0, 2, 5, 999}, s},
		{[]int{5, 5, 2, 2, 5}, s[1:3]}, {[]int{7, 999, -1 << 63, 0}, binds(s[0], s[3])}, {[]int{2, 3, 4}, s[1:2]},
	} {
		if got := subst.Keep(s, c.vars); !alike(got, c.want) {
			t.Error(i, got)
		}
		if got := subst.Keep(nil, c.vars); len(got) != 0 {
			t.Error(i, got)
		}
	}
}

// P2.1, B5.
func TestIdem(t *testing.T) {
	for i, c := range []struct {
		s    []api.Bind
		want bool
	}{
		{nil, true}, {[]api.Bind{}, true}, {binds(bind(0, variable(1))), true}, {binds(bind(1, variable(0))), true}, {binds(bind(0, fun("f", variable(0)))), false},
		{binds(bind(0, variable(1)), bind(1, fun("a"))), false}, {binds(bind(0, fun("a")), bind(1, variable(0))), false}, {binds(bind(0, variable(2)), bind(1, variable(2))), true},
		{binds(bind(0, variable(1)), bind(1, variable(0))), false}, {binds(bind(0, number(0)), bind(1, number(0))), true}, {binds(bind(0, fun("a")), bind(999, fun("f", variable(2), fun("g", number(1), variable(0))))), false},
		{binds(bind(0, fun("a")), bind(999, fun("f", variable(2), fun("g", number(1), variable(1))))), true}, {binds(bind(998, nest(199, variable(999))), bind(999, fun("a"))), false},
	} {
		if got := subst.Idem(c.s); got != c.want {
			t.Error(i, c.s, got)
		}
	}
}
