package subst_test

import (
	"slices"
	"testing"

	"sorrel/api"
	"sorrel/subst"
	"sorrel/term"
)

// P2.1: Apply, told of each cell by itself.
func TestApplyByCells(t *testing.T) {
	from := seeded(1)
	for range 3000 {
		s, x := from.bindings(), from.term(4)
		var want []api.Cell
		for _, c := range x {
			in := []api.Cell{c}
			for _, b := range s {
				if c == (api.Cell{Kind: api.Var, N: b.Var}) {
					in = b.T
				}
			}
			want = slices.Concat(want, in)
		}
		fit := len(want) <= api.MaxCells
		if got, fits := subst.Apply(s, x); fits != fit || fits && (!same(got, want) || !term.Right(got)) || !fits && got != nil {
			t.Fatal(s, x, got, fits)
		}
	}
}

// P2.1: Right, against the chapter's words, of bindings of variables by variables, many of them at an edge.
func TestRightAsSaid(t *testing.T) {
	from := seeded(2)
	rights := 0
	for range 20000 {
		s := make([]api.Bind, from.IntN(4))
		for i := range s {
			s[i] = bind([]int{-1, 0, 1, 2, 3, 998, 999, 1000}[from.IntN(8)], variable([]int{-1, 0, 1, 2, 999, 1000}[from.IntN(6)]))
		}
		want := true
		for i, b := range s {
			want = want && b.Var >= 0 && b.Var <= 999 && (i == 0 || s[i-1].Var < b.Var) && term.Right(b.T) && b.T[0].N != b.Var
		}
		if want {
			rights++
		}
		if subst.Right(s) != want {
			t.Fatal(s, want)
		}
	}
	if rights < 1000 {
		t.Error("too few right ones to tell:", rights)
	}
}

// P2.2: what is composed of two does what the first one and then the second one do, and is right.
func TestComposedOfTwo(t *testing.T) {
	from := seeded(3)
	gone := 0
	for range 3000 {
		a, b := from.bindings(), from.bindings()
		both, fits := subst.Compose(a, b)
		if !fits {
			if both != nil || !tooLong(a, b) {
				t.Fatal(a, b, both)
			}
			continue
		}
		if !subst.Right(both) || tooLong(a, b) {
			t.Fatal(a, b, both)
		}
		for _, x := range append(from.terms(5), variable(0), variable(1), variable(2), variable(3), variable(4), variable(999), variable(7)) {
			once, fit := subst.Apply(a, x)
			if fit {
				once, fit = subst.Apply(b, once)
			}
			if got, is := subst.Apply(both, x); is != fit || !same(got, once) {
				t.Fatal(a, b, x, got, once)
			}
		}
		for _, bound := range a {
			if !slices.ContainsFunc(both, func(x api.Bind) bool { return x.Var == bound.Var }) {
				gone++
			}
		}
	}
	if gone < 50 {
		t.Error("too few bindings became their own variable:", gone)
	}
}

// tooLong says whether a term of a has too many cells, once b is put into it.
func tooLong(a []api.Bind, b []api.Bind) bool {
	return slices.ContainsFunc(a, func(x api.Bind) bool {
		_, fits := subst.Apply(b, x.T)
		return !fits
	})
}

// P2.2: three are composed in any way to the same.
func TestComposedOfThree(t *testing.T) {
	from := seeded(4)
	told := 0
	for range 3000 {
		a, b, c := from.bindings(), from.bindings(), from.bindings()
		ab, isAB := subst.Compose(a, b)
		bc, isBC := subst.Compose(b, c)
		if !isAB || !isBC {
			continue
		}
		left, isLeft := subst.Compose(ab, c)
		right, isRight := subst.Compose(a, bc)
		if isLeft && isRight {
			told++
		}
		// As both pairs fit, a term can get too long only by all three, which is so either way.
		if isLeft != isRight || !alike(left, right) {
			t.Fatal(a, b, c, left, right)
		}
	}
	if told < 500 {
		t.Error("too few to tell:", told)
	}
}

// P2.3: idempotent bindings, put in twice, are as put in once; of others Idem says no.
func TestIdemTwice(t *testing.T) {
	from := seeded(5)
	var count [2]int
	for range 6000 {
		s := from.bindings()
		idem := subst.Idem(s)
		twice, fits := subst.Compose(s, s)
		if idem {
			count[0]++
			if !fits || !alike(twice, s) {
				t.Fatal(s, twice)
			}
		} else {
			count[1]++
			if fits && alike(twice, s) {
				t.Fatal(s, "is as once, and not idempotent")
			}
		}
		for _, x := range from.terms(5) {
			if once, fits := subst.Apply(s, x); fits && idem {
				if again, fits := subst.Apply(s, once); !fits || !same(again, once) {
					t.Fatal(s, x, once, again)
				}
			}
		}
	}
	if min(count[0], count[1]) < 300 {
		t.Error("too few of one kind to tell:", count)
	}
}

// P2.4: bindings of variables that a term has not play no part.
func TestKeptForTerm(t *testing.T) {
	from := seeded(6)
	for range 3000 {
		s, x := from.bindings(), from.term(4)
		vars := term.Vars(x)
		kept := subst.Keep(s, vars)
		want, fit := subst.Apply(s, x)
		if got, fits := subst.Apply(kept, x); fits != fit || !same(got, want) || !subst.Right(kept) {
			t.Fatal(s, x, kept, got)
		}
		for _, b := range kept {
			if !slices.Contains(vars, b.Var) {
				t.Fatal(s, vars, kept)
			}
		}
		rest := subst.Keep(s, without(vars))
		if got, fits := subst.Apply(rest, x); !fits || !same(got, x) || len(rest)+len(kept) != len(s) {
			t.Fatal(s, x, rest, got)
		}
	}
}

// without are all other variables.
func without(vars []int) []int {
	var others []int
	for v := range 1000 {
		if !slices.Contains(vars, v) {
			others = append(others, v)
		}
	}
	return others
}

// P2.5: what is put into a term is put into its parts.
func TestPutIntoParts(t *testing.T) {
	from := seeded(7)
	for range 3000 {
		s, x := from.bindings(), from.term(4)
		if x[0].Kind != api.Fun {
			continue
		}
		whole, fits := subst.Apply(s, x)
		fit := true
		var parts [][]api.Cell
		for _, p := range term.Parts(x) {
			into, is := subst.Apply(s, p)
			fit = fit && is
			parts = append(parts, into)
		}
		made := term.Make(x[0].Name, parts)
		if fits != (fit && made != nil) || fits && !same(whole, made) {
			t.Fatal(s, x, whole, made)
		}
	}
}

// P2.5: a term without variables stays; the variables then are those of what was put in, and those that no binding has.
func TestVariablesThen(t *testing.T) {
	from := seeded(8)
	for range 3000 {
		s, x := from.bindings(), from.term(4)
		got, fits := subst.Apply(s, x)
		if !fits {
			continue
		}
		if term.Ground(x) && !same(got, x) {
			t.Fatal(s, x, got)
		}
		var want []int
		for _, v := range term.Vars(x) {
			if i := slices.IndexFunc(s, func(b api.Bind) bool { return b.Var == v }); i >= 0 {
				want = append(want, term.Vars(s[i].T)...)
			} else {
				want = append(want, v)
			}
		}
		slices.Sort(want)
		vars := term.Vars(got)
		slices.Sort(vars)
		if !slices.Equal(vars, slices.Compact(want)) {
			t.Fatal(s, x, vars, want)
		}
	}
}

// told are the answers of all calls to the same arguments.
type told struct {
	right, idem    bool
	applied        []api.Cell
	fits, composes bool
	composed, kept []api.Bind
}

func tell(a []api.Bind, b []api.Bind, x []api.Cell, vars []int) told {
	var l told
	l.right, l.idem = subst.Right(a), subst.Idem(a)
	l.applied, l.fits = subst.Apply(a, x)
	l.composed, l.composes = subst.Compose(a, b)
	l.kept = subst.Keep(a, vars)
	return l
}

func (l told) like(m told) bool {
	return l.right == m.right && l.idem == m.idem && l.fits == m.fits && l.composes == m.composes &&
		same(l.applied, m.applied) && alike(l.composed, m.composed) && alike(l.kept, m.kept)
}

// P1: no call panics, and each ends, at bindings and terms that are not right as well.
func TestNoPanic(t *testing.T) {
	terms := append(wrong(), variable(0), variable(3), fun("f", variable(3), number(3)), nest(199, variable(4)))
	sets := append(wrongBindings(), nil, binds(bind(3, fun("a"))), binds(bind(3, variable(3))))
	for _, a := range sets {
		for _, x := range terms {
			tell(a, a, x, []int{-1 << 63, 1<<63 - 1, 3, -1, 1000})
		}
		for _, b := range sets {
			tell(a, b, number(1), nil)
		}
	}
	long := slices.Repeat(head("s", 1), 1<<22)
	long[len(long)-1] = variable(0)[0]
	if s := binds(bind(0, long)); subst.Right(s) {
		t.Error("a term of too many cells")
	} else if got := tell(s, s, long, []int{0}); got.fits || got.composes || got.applied != nil || got.composed != nil {
		t.Error("a term of too many cells was laid")
	}
}

// P2: where a term gets too long, nothing else is told.
func TestNothing(t *testing.T) {
	s := binds(bind(0, nest(100, variable(0))))
	if got, fits := subst.Apply(s, nest(100, variable(0))); fits || got != nil {
		t.Error(got, fits)
	}
	for _, a := range [][]api.Bind{binds(bind(0, fun("a")), bind(1, nest(100, variable(0)))), binds(bind(1, nest(100, variable(0))), bind(2, fun("a")))} {
		if got, fits := subst.Compose(a, s); fits || got != nil {
			t.Error(got, fits)
		}
	}
}

// P3: nothing that is handed in is changed or kept, and an answer hangs on the arguments alone.
func TestSameAgain(t *testing.T) {
	from := seeded(9)
	for range 500 {
		a, b, x, vars := from.bindings(), from.bindings(), from.term(4), []int{4, 0, 999, 0}
		keptA, keptB, keptX := deepCopy(a), deepCopy(b), slices.Clone(x)
		first := tell(a, b, x, vars)
		spoil(tell(a, b, x, vars))
		if !alike(a, keptA) || !alike(b, keptB) || !same(x, keptX) || !slices.Equal(vars, []int{4, 0, 999, 0}) {
			t.Fatal("an argument was changed, or is part of an answer", keptA, keptB, keptX)
		}
		if again := tell(keptA, keptB, keptX, vars); !first.like(again) {
			t.Fatal(first, again)
		}
	}
	// Nor do two rows of one answer share memory.
	shared := fun("g", variable(2))
	both, _ := subst.Compose(binds(bind(0, variable(5)), bind(1, variable(5))), binds(bind(3, shared), bind(4, shared), bind(5, shared)))
	if len(both) != 5 {
		t.Fatal(both)
	}
	both[0].T[0].N = 9
	both[2].T[0].N = 9
	for _, i := range []int{1, 3, 4} {
		if !same(both[i].T, shared) {
			t.Error(i, both)
		}
	}
}

// spoil writes over all that answers hold.
func spoil(l told) {
	rows := [][]api.Cell{l.applied}
	for _, b := range append(slices.Clone(l.composed), l.kept...) {
		rows = append(rows, b.T)
	}
	for _, row := range rows {
		for i := range row {
			row[i] = api.Cell{Kind: 9, Name: "spoilt", N: 9}
		}
	}
	clear(l.composed)
	clear(l.kept)
}

// P3: an empty row and none are the same.
func TestEmpty(t *testing.T) {
	x, s := fun("f", variable(0)), binds(bind(0, fun("a")))
	got, fits := subst.Apply([]api.Bind{}, x)
	left, isLeft := subst.Compose([]api.Bind{}, s)
	right, isRight := subst.Compose(s, []api.Bind{})
	if !fits || !same(got, x) || !isLeft || !alike(left, s) || !isRight || !alike(right, s) || !subst.Right([]api.Bind{}) || !subst.Idem([]api.Bind{}) || len(subst.Keep(s, []int{})) != 0 {
		t.Error("an empty row is not none")
	}
}
