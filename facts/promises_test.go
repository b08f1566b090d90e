package facts_test

import (
	"slices"
	"testing"

	"sorrel/api"
	"sorrel/facts"
	"sorrel/subst"
	"sorrel/unify"
)

// P12.2: a row is a set of facts: it stays right; what is added is there, what is dropped is not, all else stays.
func TestSets(t *testing.T) {
	from := seeded(6)
	var count [4]int
	for range 200 {
		var l [][]api.Cell
		set := map[string][]api.Cell{}
		for range 60 {
			x := from.fact()
			if len(l) > 0 && from.IntN(4) == 0 {
				x = l[from.IntN(len(l))]
			}
			key := written(x)
			_, had := set[key]
			next, e := l, api.OK
			if from.IntN(3) > 0 {
				next, e = facts.Add(l, x)
				set[key] = x
				count[0]++
			} else if next, e = facts.Drop(l, x); had {
				delete(set, key)
				count[1]++
			} else if e == api.ErrNone {
				next, e = l, api.OK
				count[2]++
			}
			if l = next; e != api.OK || !facts.Right(l) || len(l) != len(set) {
				t.Fatal(l, x, e)
			}
			for _, y := range set {
				if !facts.Has(l, y) {
					t.Fatal(l, y)
				}
			}
			if _, now := set[key]; facts.Has(l, x) != now {
				t.Fatal(l, x)
			}
		}
	}
	if min(count[0], count[1], count[2]) < 1000 {
		t.Error("too few to tell:", count)
	}
}

// written is a text of cells that those alone have.
func written(t []api.Cell) string {
	var b []byte
	for _, c := range t {
		b = append(b, byte(c.Kind), byte(c.N+100))
		b = append(append(b, c.Name...), 0)
	}
	return string(b)
}

// P12.2: the order in which facts come and go plays no part.
func TestOrders(t *testing.T) {
	from := seeded(7)
	told := 0
	for range 1500 {
		coming := from.row(t, 20)
		going := from.shuffled(coming)[:from.IntN(len(coming)+1)]
		var rows [2][][]api.Cell
		for i := range rows {
			l := row(t, from.shuffled(append(slices.Clone(coming), coming[:len(coming)/2]...))...)
			for _, x := range from.shuffled(going) {
				m, e := facts.Drop(l, x)
				if e != api.OK {
					t.Fatal(l, x, e)
				}
				l = m
			}
			rows[i] = l
		}
		if !same(rows[0], rows[1]) || len(rows[0]) != len(coming)-len(going) {
			t.Fatal(rows)
		}
		// Coming and going mixed: each goes behind its coming.
		var l [][]api.Cell
		for _, x := range from.shuffled(coming) {
			l, _ = facts.Add(l, x)
			if has(going, x) {
				l, _ = facts.Drop(l, x)
			}
		}
		if !same(l, rows[0]) {
			t.Fatal(l, rows)
		}
		if len(going) > 1 {
			told++
		}
	}
	if told < 500 {
		t.Error("too few to tell:", told)
	}
}

// P12.2: a full row stays right, whatever is added, and takes facts again once one went.
func TestFullStays(t *testing.T) {
	from := seeded(8)
	l := numbered(512)
	for range 100 {
		at := from.IntN(len(l))
		m, e := facts.Drop(l, l[at])
		if e != api.OK || len(m) != 511 || !facts.Right(m) {
			t.Fatal(e, len(m))
		}
		x := fun("p", fun("f", number(from.IntN(1000))))
		m, e = facts.Add(m, x)
		if e != api.OK || !facts.Right(m) || !facts.Has(m, x) {
			t.Fatal(e, len(m))
		}
		if len(m) == 512 {
			if none, e := facts.Add(m, l[at]); e != api.ErrBig || len(none) > 0 {
				t.Fatal(e, len(none))
			}
		}
		if len(m) < 512 {
			m, _ = facts.Add(m, l[at])
		}
		l = m
	}
}

// bindings are for the variables of generated calls; some of the terms have variables.
func (from source) bindings() []api.Bind {
	var l []api.Bind
	for _, n := range []int{0, 1, 2, 999} {
		if t := from.argument(1, true); from.coin() && !slices.Equal(t, variable(n)) {
			l = append(l, api.Bind{Var: n, T: t})
		}
	}
	return l
}

// P12.3: of two calls of which one is an instance of the other one the latter finds all that the former does.
func TestInstances(t *testing.T) {
	from := seeded(9)
	var count [2]int
	for range 8000 {
		l, call, by := from.row(t, 150), from.call(), from.bindings()
		if len(l) > 0 && from.coin() {
			x := l[from.IntN(len(l))]
			call = from.wider(x)
			by, _ = unify.Match(call, x)
			by = by[:from.IntN(len(by)+1)]
		}
		narrow, fits := subst.Apply(by, call)
		if !fits {
			continue
		}
		all, some := facts.Find(l, call), facts.Find(l, narrow)
		for _, x := range some {
			if !has(all, x) || !has(l, x) {
				t.Fatal(l, call, narrow, x)
			}
		}
		if len(some) > 0 {
			count[0]++
			if len(all) > len(some) {
				count[1]++
			}
		}
	}
	if min(count[0], count[1]) < 400 {
		t.Error("too few to tell:", count)
	}
}

// P12.3: a call of other variables all of them finds all facts of its predicate; one without variables just itself.
func TestPredicates(t *testing.T) {
	from := seeded(10)
	told := 0
	for range 1500 {
		l := from.row(t, 60)
		for _, name := range []string{"p", "q", "B", "=", "pp", "r"} {
			for many := range 5 {
				args := make([][]api.Cell, many)
				for i, n := range from.Perm(1000)[:many] {
					args[i] = variable(n)
				}
				got := facts.Find(l, fun(name, args...))
				if !same(got, slices.DeleteFunc(slices.Clone(l), func(x []api.Cell) bool { return x[0].Name != name || x[0].N != many })) {
					t.Fatal(l, name, many, got)
				}
				if len(got) > 1 {
					told++
				}
			}
		}
		for _, x := range l {
			if got := facts.Find(l, x); !same(got, [][]api.Cell{x}) {
				t.Fatal(l, x, got)
			}
		}
		if x := from.fact(); len(facts.Find(l, x)) > 0 != facts.Has(l, x) {
			t.Fatal(l, x)
		}
	}
	if told < 1500 {
		t.Error("too few to tell:", told)
	}
}

// P12.4: what Diff tells makes the one row of the other one, and nothing of it is told without need.
func TestApart(t *testing.T) {
	from := seeded(11)
	told := 0
	for range 2500 {
		a, b := from.row(t, 25), from.row(t, 25)
		if from.coin() {
			b = sorted(slices.Concat(a[:from.IntN(len(a)+1)], b))
		}
		more, less := facts.Diff(a, b)
		l := a
		for _, x := range more {
			m, e := facts.Add(l, x)
			if e != api.OK || len(m) != len(l)+1 {
				t.Fatal(l, x, e)
			}
			l = m
		}
		for _, x := range less {
			m, e := facts.Drop(l, x)
			if e != api.OK {
				t.Fatal(l, x, e)
			}
			l = m
		}
		if !same(l, b) || !facts.Right(more) || !facts.Right(less) {
			t.Fatal(a, b, more, less)
		}
		back, forth := facts.Diff(b, a)
		if !same(back, less) || !same(forth, more) {
			t.Fatal(a, b, back, forth)
		}
		if len(more) > 1 && len(less) > 1 {
			told++
		}
	}
	if told < 1000 {
		t.Error("too few to tell:", told)
	}
}

// answers are what all calls tell of a row, a term and another row.
type answers struct {
	is, right, has         bool
	more, less, found      [][]api.Cell
	came, went             [][]api.Cell
	addingTold, droppingTo api.Errno
}

func asked(l [][]api.Cell, t []api.Cell, other [][]api.Cell) answers {
	a := answers{is: facts.Fact(t), right: facts.Right(l), has: facts.Has(l, t), found: facts.Find(l, t)}
	a.more, a.addingTold = facts.Add(l, t)
	a.less, a.droppingTo = facts.Drop(l, t)
	a.came, a.went = facts.Diff(l, other)
	return a
}

func (a answers) same(b answers) bool {
	return a.is == b.is && a.right == b.right && a.has == b.has && a.addingTold == b.addingTold && a.droppingTo == b.droppingTo &&
		same(a.more, b.more) && same(a.less, b.less) && same(a.found, b.found) && same(a.came, b.came) && same(a.went, b.went)
}

// spoil writes over all that was told, and behind it as far as there is memory; no row of it has memory of another one.
func (a answers) spoil() bool {
	var rows [][]api.Cell
	for _, l := range [][][]api.Cell{a.more, a.less, a.found, a.came, a.went} {
		rows = append(rows, slices.Clone(l)...)
		for i := range l[:cap(l)] {
			l[:cap(l)][i] = nil
		}
	}
	was := copied(rows)
	for i, row := range rows {
		if !slices.Equal(row, was[i]) {
			return false
		}
		for k := range row[:cap(row)] {
			row[:cap(row)][k] = api.Cell{Kind: -9}
		}
	}
	return true
}

// P1: whatever is handed in, the calls end, and none panics.
func TestAnything(t *testing.T) {
	from := seeded(12)
	for range 20000 {
		rows := make([][][]api.Cell, 2)
		for i := range rows {
			rows[i] = from.mixed(t)
			for range from.IntN(4) {
				rows[i] = append(rows[i], from.wild())
			}
		}
		x := from.wild()
		if from.coin() {
			x = from.near()
		}
		asked(rows[0], x, rows[1])
	}
	// Gone into, these would nest deeper than a stack reaches.
	long := slices.Repeat([]api.Cell{{Kind: api.Fun, Name: "f", N: 6}}, 1000000)
	for _, x := range [][]api.Cell{long, nest(1000000, number(1)), wide(200)} {
		asked([][]api.Cell{x}, x, [][]api.Cell{x, nil})
		asked(numbered(2000), x, numbered(600))
	}
}

// P2: with an error there is no row; the error that is named first is told.
func TestErrors(t *testing.T) {
	for _, l := range [][][]api.Cell{nil, numbered(3), numbered(512), numbered(600)} {
		for _, x := range [][]api.Cell{nil, {}, variable(0), number(1), fun("p", variable(0)), fun("p", number(1))[:1], append(fun("p"), fun("p")...), fun(""), nest(12, fun("a"))} {
			if m, e := facts.Add(l, x); e != api.ErrFact || m != nil {
				t.Error(x, m, e)
			}
			if m, e := facts.Drop(l, x); e != api.ErrFact || m != nil {
				t.Error(x, m, e)
			}
		}
		if m, e := facts.Drop(l, fun("p")); e != api.ErrNone || m != nil {
			t.Error(m, e)
		}
	}
	if m, e := facts.Add(numbered(512), fun("p")); e != api.ErrBig || m != nil {
		t.Error(m, e)
	}
}

// P3: what is handed in stays as it is, and tells the same again, whatever becomes of what was told.
func TestUnchanged(t *testing.T) {
	from := seeded(13)
	for range 3000 {
		l, other, x := from.row(t, 12), from.row(t, 12), from.near()
		switch {
		case len(l) > 0 && from.coin():
			x = l[from.IntN(len(l))]
		case from.coin():
			x = from.call()
		}
		// Memory behind a row is not the row's: nothing may be laid there.
		l, other, x = slices.Grow(l, 9), slices.Grow(other, 9), slices.Grow(x, 9)
		spare, cells := slices.Clone(l[:cap(l)]), slices.Clone(x[:cap(x)])
		was, otherWas := copied(l), copied(other)
		first := asked(l, x, other)
		if !asked(l, x, other).spoil() {
			t.Fatal(l, x, other)
		}
		if !same(l, was) || !same(other, otherWas) || !same(l[:cap(l)], spare) || !slices.Equal(x[:cap(x)], cells) {
			t.Fatal(l, x, other)
		}
		if !first.same(asked(l, x, other)) || !first.same(asked(was, slices.Clone(x), otherWas)) {
			t.Fatal(l, x, other, first)
		}
	}
}

// P3: calls that run beside each other tell what they tell alone.
func TestBesideEachOther(t *testing.T) {
	from := seeded(14)
	l, other := from.row(t, 100), from.row(t, 100)
	alone := asked(l, fun("p", variable(0)), other)
	told := make(chan bool)
	for range 8 {
		go func() { told <- asked(l, fun("p", variable(0)), other).same(alone) }()
	}
	for range 8 {
		if !<-told {
			t.Error("told otherwise")
		}
	}
}

// P3: an empty row and none are the same.
func TestEmpty(t *testing.T) {
	empty := [][]api.Cell{}
	for _, x := range [][]api.Cell{nil, {}, fun("p"), fun("p", variable(0))} {
		if !asked(nil, x, empty).same(asked(empty, x, nil)) {
			t.Error(x)
		}
	}
	if facts.Right([][]api.Cell{nil}) || facts.Right([][]api.Cell{{}}) || facts.Fact(nil) || facts.Fact([]api.Cell{}) {
		t.Error("no cells")
	}
}
