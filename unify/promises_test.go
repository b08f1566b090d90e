package unify_test

import (
	"slices"
	"testing"

	"sorrel/api"
	"sorrel/subst"
	"sorrel/term"
	"sorrel/unify"
)

// P3.2: what Mgu tells makes both terms the same, is right, and, put in twice, is as once; the other way round it is the same.
func TestAlike(t *testing.T) {
	from := seeded(5)
	told := 0
	for range 6000 {
		a, b := from.pair()
		s, e := unify.Mgu(a, b)
		wantMgu(t, a, b, s, e)
		if e != api.OK {
			continue
		}
		told++
		if !subst.Right(s) || !subst.Idem(s) {
			t.Fatal(a, b, s)
		}
		left, isLeft := subst.Apply(s, a)
		right, isRight := subst.Apply(s, b)
		if isLeft != isRight || !same(left, right) {
			t.Fatal(a, b, s, left, right)
		}
		if again, fits := subst.Apply(s, left); isLeft && (!fits || !same(again, left)) {
			t.Fatal(a, b, s, left, again)
		}
		if twice, fits := subst.Compose(s, s); !fits || !alike(twice, s) {
			t.Fatal(a, b, s, twice)
		}
		// Once they are the same nothing more is bound.
		if isLeft {
			wantMgu(t, left, right, nil, api.OK)
		}
	}
	if told < 1000 {
		t.Error("too few to tell:", told)
	}
}

// P3.3: whatever else makes both the same: put in behind Mgu's bindings it is as by itself.
func TestMostGeneral(t *testing.T) {
	from := seeded(6)
	var count [2]int
	for range 6000 {
		// other binds some of the few variables to terms without them.
		var other []api.Bind
		for _, v := range few() {
			if from.IntN(4) > 0 {
				other = append(other, bind(v, from.term(2, []int{7, 8})))
			}
		}
		whole := put(t, other, from.term(4, few()))
		a, b := from.unput(other, whole), from.unput(other, whole)
		if !same(put(t, other, a), put(t, other, b)) {
			t.Fatal("the test is wrong", other, a, b)
		}
		s, e := unify.Mgu(a, b)
		if e != api.OK {
			t.Fatal(other, a, b, e)
		}
		both, fits := subst.Compose(s, other)
		if !fits || !alike(both, other) {
			t.Fatal(other, a, b, s, both)
		}
		if alike(s, other) {
			count[0]++
		} else {
			count[1]++
		}
	}
	if count[1] < 1000 {
		t.Error("too few that are not just Mgu's:", count)
	}
}

// unput is t, in which some parts are replaced by variables that are bound to them.
func (from source) unput(s []api.Bind, t []api.Cell) []api.Cell {
	var out []api.Cell
next:
	for at := 0; at < len(t); {
		for _, i := range from.Perm(len(s)) {
			if to := end(t, at); from.IntN(2) == 0 && same(s[i].T, t[at:to]) {
				out = append(out, variable(s[i].Var)...)
				at = to
				continue next
			}
		}
		out = append(out, t[at])
		at++
	}
	return out
}

// P3.3: of small terms, all bindings of their variables by small terms that make both the same.
func TestMostGeneralSmall(t *testing.T) {
	l, by := small(3), [][]api.Cell{variable(0), variable(1), variable(2), variable(3), number(1), fun("a"), fun("s", variable(0)), fun("s", fun("a")), fun("f", variable(1), fun("a"))}
	var all [][]api.Bind
	for _, x := range by {
		for _, y := range by {
			for _, z := range by {
				all = append(all, slices.DeleteFunc(binds(bind(0, x), bind(1, y), bind(2, z)), func(b api.Bind) bool { return same(b.T, variable(b.Var)) }))
			}
		}
	}
	made := 0
	for i, a := range l {
		for _, b := range l[:i] {
			s, e := unify.Mgu(a, b)
			for _, other := range all {
				if !same(put(t, other, a), put(t, other, b)) {
					continue
				}
				made++
				if both, fits := subst.Compose(s, other); e != api.OK || !fits || !alike(both, other) {
					t.Fatal(a, b, s, e, other, both)
				}
			}
		}
	}
	if made < 10000 {
		t.Error("too few to tell:", made)
	}
}

// P3.4: terms of the same name are made alike part by part: the first parts, and, with that put in, the next ones.
func TestPartByPart(t *testing.T) {
	from := seeded(7)
	count := map[api.Errno]int{}
	for range 6000 {
		l, m := make([][]api.Cell, 1+from.IntN(6)), []([]api.Cell){}
		for i := range l {
			x, y := from.pair()
			if from.IntN(3) > 0 {
				x, y = from.broken(from.term(1, few()), few()), variable(few()[from.IntN(6)])
			}
			l[i], m = x, append(m, y)
		}
		a, b := term.Make("f", l), term.Make("f", m)
		if a == nil || b == nil {
			continue
		}
		want, e, fits := inTurn(l, m)
		if !fits {
			continue
		}
		count[e]++
		wantMgu(t, a, b, want, e)
	}
	if count[api.OK] < 500 || count[api.ErrNone] < 500 {
		t.Error("too few of one kind to tell:", count)
	}
}

// inTurn makes parts alike one by one; false, if what is laid meanwhile gets too long.
func inTurn(l [][]api.Cell, m [][]api.Cell) ([]api.Bind, api.Errno, bool) {
	var s []api.Bind
	for i := range l {
		x, isX := subst.Apply(s, l[i])
		y, isY := subst.Apply(s, m[i])
		if !isX || !isY {
			return nil, api.ErrBig, false
		}
		more, e := unify.Mgu(x, y)
		if e != api.OK {
			return nil, e, e == api.ErrNone
		}
		both, fits := subst.Compose(s, more)
		if !fits {
			return nil, api.ErrBig, false
		}
		s = both
	}
	return s, api.OK, true
}

// P3.5: where one has no variables, Mgu and Match are the same.
func TestOneWay(t *testing.T) {
	from := seeded(8)
	var count [2]int
	for range 6000 {
		x := from.term(4, nil)
		p := from.broken(x, few())
		if from.IntN(3) == 0 {
			p = from.term(3, few())
		}
		s, is := unify.Match(p, x)
		e := api.OK
		if !is {
			e = api.ErrNone
			count[0]++
		} else {
			count[1]++
		}
		wantMgu(t, p, x, s, e)
		if is && !same(put(t, s, p), x) {
			t.Fatal(p, x, s)
		}
		// It matches the other way round only where both are the same.
		wantMatch(t, x, p, nil, same(x, p))
	}
	if min(count[0], count[1]) < 500 {
		t.Error("too few of one kind to tell:", count)
	}
}

// P3.5: each of two variants matches the other one, and terms that match each other are variants.
func TestVariantsMatch(t *testing.T) {
	from := seeded(9)
	var count [2]int
	for range 6000 {
		a := from.term(5, few())
		// Two variables become one at times.
		to := from.Perm(6)
		for range from.IntN(3) {
			to[from.IntN(6)] = from.IntN(6)
		}
		b := slices.Clone(a)
		for i, c := range a {
			if c.Kind == api.Var {
				b[i].N = to[c.N%6]
			}
		}
		there, is := unify.Match(a, b)
		back, was := unify.Match(b, a)
		wantVariant(t, a, b, is && was)
		if !is || !was {
			count[0]++
			continue
		}
		count[1]++
		if !same(put(t, there, a), b) || !same(put(t, back, b), a) || !subst.Right(there) || !subst.Right(back) || !same(term.Number(a), term.Number(b)) {
			t.Fatal(a, b, there, back)
		}
	}
	if min(count[0], count[1]) < 200 {
		t.Error("too few of one kind to tell:", count)
	}
}

// P3.1, C2: Match is of p alone: of terms without a variable in common it is what Mgu tells, where that binds none of t's.
func TestMatchIsMgu(t *testing.T) {
	from := seeded(10)
	told := 0
	for range 6000 {
		x := from.term(4, []int{10, 11, 12})
		p := from.broken(x, few())
		if slices.ContainsFunc(p, func(c api.Cell) bool { return c.Kind == api.Var && c.N >= 10 && c.N <= 12 }) {
			continue
		}
		s, is := unify.Match(p, x)
		m, e := unify.Mgu(p, x)
		ours := !slices.ContainsFunc(m, func(b api.Bind) bool { return b.Var >= 10 && b.Var <= 12 })
		if is && e == api.OK && ours && !slices.ContainsFunc(s, func(b api.Bind) bool { return b.T[0].Kind == api.Var }) {
			told++
			if !alike(s, m) {
				t.Fatal(p, x, s, m)
			}
		}
		if is && (e == api.ErrNone || !same(put(t, s, p), x)) {
			t.Fatal(p, x, s, e)
		}
	}
	if told < 300 {
		t.Error("too few to tell:", told)
	}
}

// told are the answers of all calls to the same terms.
type told struct {
	mgu, match  []api.Bind
	e           api.Errno
	is, variant bool
}

func tell(a []api.Cell, b []api.Cell) told {
	var l told
	l.mgu, l.e = unify.Mgu(a, b)
	l.match, l.is = unify.Match(a, b)
	l.variant = unify.Variant(a, b)
	return l
}

func (l told) like(m told) bool {
	return l.e == m.e && l.is == m.is && l.variant == m.variant && alike(l.mgu, m.mgu) && alike(l.match, m.match)
}

// P1: no call panics, and each ends, at rows that are no right term as well.
func TestNoPanic(t *testing.T) {
	l := append(wrong(), variable(0), variable(3), number(3), fun("a"), fun("f", variable(3), number(3)), fun("f", variable(3), variable(4)), nest(199, variable(4)))
	for _, a := range l {
		for _, b := range l {
			got := tell(a, b)
			if right := term.Right(a) && term.Right(b); !right && (got.e != api.ErrNone || got.is || got.mgu != nil || got.match != nil) {
				t.Error(a, b, got)
			}
		}
	}
	// Longer than a stack reaches.
	long := slices.Repeat(head("s", 1), 1<<22)
	long[len(long)-1] = variable(0)[0]
	for _, x := range [][2][]api.Cell{{long, long}, {long, variable(1)}, {variable(1), long}} {
		if s, e := unify.Mgu(x[0], x[1]); e != api.ErrNone || s != nil {
			t.Error(len(s), e)
		}
		if s, is := unify.Match(x[0], x[1]); is || s != nil {
			t.Error(len(s), is)
		}
	}
}

// P1: terms at the limits, with as many variables as there may be places.
func TestGreatest(t *testing.T) {
	var l, m [][]api.Cell
	for v := range 160 {
		l, m = append(l, variable(v)), append(m, variable(v+1))
	}
	var want []api.Bind
	for v := 1; v <= 160; v++ {
		want = append(want, bind(v, variable(0)))
	}
	wantMgu(t, row(l...), row(m...), want, api.OK)
	slices.Reverse(l)
	slices.Reverse(m)
	wantMgu(t, row(l...), row(m...), want, api.OK)
	if s, is := unify.Match(row(l...), row(m...)); !is || len(s) != 160 || !same(put(t, s, row(l...)), row(m...)) {
		t.Error(s, is)
	}
	wantVariant(t, row(l...), row(m...), true)
	// As deep as terms go, with a class at each place on the way.
	deep := nest(199, variable(0))
	wantMgu(t, deep, nest(199, variable(1)), binds(bind(1, variable(0))), api.OK)
	wantMgu(t, deep, nest(198, variable(0)), nil, api.ErrNone)
	wantMgu(t, deep, nest(198, variable(1)), binds(bind(1, fun("s", variable(0)))), api.OK)
}

// P2: with an error, or a no, nothing else is told; a clash is told ahead of a term that is too long.
func TestNothing(t *testing.T) {
	x, a := variable, fun("a")
	// Of both the variables 1 and 2 are bound as well; that of 9 is too long.
	long := fun("g", x(0), x(0), x(0), x(1))
	left, right := [][]api.Cell{x(9), x(0), x(1), x(2)}, [][]api.Cell{long, nest(80, a), a, a}
	wantMgu(t, fun("f", left...), fun("f", right...), nil, api.ErrBig)
	for _, c := range [][2][]api.Cell{{a, fun("b")}, {a, number(0)}, {x(8), fun("s", x(8))}, {x(2), fun("b")}, {x(1), fun("s", x(9))}} {
		wantMgu(t, fun("f", append(slices.Clone(left), c[0])...), fun("f", append(slices.Clone(right), c[1])...), nil, api.ErrNone)
		wantMgu(t, fun("f", append([][]api.Cell{c[0]}, left...)...), fun("f", append([][]api.Cell{c[1]}, right...)...), nil, api.ErrNone)
	}
	wantMatch(t, fun("f", x(0), x(1), a), fun("f", a, x(0), fun("b")), nil, false)
	wantMatch(t, fun("f", x(0), x(1), x(0)), fun("f", a, x(0), x(0)), nil, false)
}

// P3: nothing that is handed in is changed or kept, and an answer hangs on the arguments alone.
func TestSameAgain(t *testing.T) {
	from := seeded(11)
	for range 1500 {
		a, b := from.pair()
		keptA, keptB := slices.Clone(a), slices.Clone(b)
		first := tell(a, b)
		spoil(tell(a, b))
		if !same(a, keptA) || !same(b, keptB) {
			t.Fatal("an argument was changed, or is part of an answer", keptA, keptB)
		}
		if again := tell(keptA, keptB); !first.like(again) {
			t.Fatal(first, again)
		}
	}
	// Nor do two rows of one answer share memory.
	g := fun("g", variable(9))
	a, b := fun("f", variable(0), variable(1), variable(2)), fun("f", g, g, variable(1))
	mgu, _ := unify.Mgu(a, b)
	match, _ := unify.Match(a, fun("f", g, g, g))
	for _, s := range [][]api.Bind{mgu, match} {
		if len(s) != 3 {
			t.Fatal(s)
		}
		s[1].T[1].N = 5
		if !same(s[0].T, g) || !same(s[2].T, g) {
			t.Error(s)
		}
	}
}

// spoil writes over all that answers hold.
func spoil(l told) {
	for _, b := range append(slices.Clone(l.mgu), l.match...) {
		for i := range b.T {
			b.T[i] = api.Cell{Kind: 9, Name: "spoilt", N: 9}
		}
	}
	clear(l.mgu)
	clear(l.match)
}
