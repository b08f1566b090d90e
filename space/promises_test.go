package space_test

import (
	"slices"
	"testing"

	"sorrel/api"
	"sorrel/space"
	"sorrel/unify"
)

// P14.2: calls that differ in their variables' names alone have one table, others their own.
func TestVariants(t *testing.T) {
	from := seeded(6)
	var count [2]int
	for range 5000 {
		call := from.call()
		other := from.asking([]api.Table{{Call: call}})
		s := opened(call, other)
		alike := unify.Variant(call, other)
		if len(s) != map[bool]int{true: 1, false: 2}[alike] || !right(s) {
			t.Fatal(call, other, s)
		}
		for _, x := range [][]api.Cell{call, other} {
			n := space.Find(s, x)
			if n < 0 || !unify.Variant(s[n].Call, x) || n != space.Find(s, from.renamed(x)) {
				t.Fatal(s, x, n)
			}
		}
		if alike {
			count[0]++
		} else {
			count[1]++
		}
	}
	if slices.Min(count[:]) < 1000 {
		t.Error("too few to tell:", count)
	}
}

// P14.2: of all calls of three arguments out of four terms there is a table for each way in which variables are alike.
func TestAllVariants(t *testing.T) {
	var calls [][]api.Cell
	part := [][]api.Cell{variable(3), variable(8), variable(5), fun("a")}
	for i := range 64 {
		calls = append(calls, fun("p", part[i%4], part[i/4%4], part[i/16]))
	}
	s := opened(calls...)
	// 5 of variables alone, 6 of two and one a, 3 of one, 1 of none.
	if len(s) != 15 || !right(s) {
		t.Error(len(s), s)
	}
	for _, x := range calls {
		for _, y := range calls {
			if (space.Find(s, x) == space.Find(s, y)) != unify.Variant(x, y) {
				t.Error(x, y)
			}
		}
	}
}

// P14.3: what is opened, or answered, again changes nothing.
func TestOnce(t *testing.T) {
	from := seeded(7)
	told := 0
	for range 3000 {
		s := from.tables(6, 5)
		one, n := space.Open(s, from.asking(s))
		for range 3 {
			two, again := space.Open(one, from.renamed(one[n].Call))
			if again != n || !sameTables(one, two) {
				t.Fatal(one, two, n, again)
			}
			one = two
		}
		x := from.filled(one[n].Call)
		one, _ = space.Answer(one, n, x)
		for range 3 {
			two, is := space.Answer(one, n, slices.Clone(x))
			if is || !sameTables(one, two) {
				t.Fatal(one, two, x)
			}
			one = two
		}
		for at, table := range one {
			if again, n := space.Open(one, table.Call); n != at || !sameTables(again, one) {
				t.Fatal(one, again, n)
			}
			for _, x := range table.Answers {
				if again, is := space.Answer(one, at, x); is || !sameTables(again, one) {
					t.Fatal(one, again, x)
				}
				told++
			}
		}
	}
	if told < 10000 {
		t.Error("too few to tell:", told)
	}
}

// act is a call that is opened, and an answer that it has; none of a call without answers.
type act struct {
	call   []api.Cell
	answer []api.Cell
}

// acts are what tables come of, twice as often as they need be.
func acts(s []api.Table) []act {
	var l []act
	for _, t := range s {
		l = append(l, act{call: t.Call}, act{call: t.Call})
		for _, x := range t.Answers {
			l = append(l, act{t.Call, x}, act{t.Call, x})
		}
	}
	return l
}

// done are the tables that come of acts, one behind the other.
func done(from source, l []act) []api.Table {
	var s []api.Table
	for _, a := range l {
		var n int
		s, n = space.Open(s, from.renamed(a.call))
		if a.answer != nil {
			s, _ = space.Answer(s, n, a.answer)
		}
	}
	return s
}

// P14.4: however tables were opened, and answers came, sorted they are alike.
func TestSorted(t *testing.T) {
	from := seeded(8)
	told := 0
	for range 2000 {
		s := from.tables(7, 5)
		want, _ := space.Sort(s)
		for range 3 {
			one := done(from, shuffled(from, acts(s)))
			got, places := space.Sort(one)
			if !sameTables(got, want) || len(places) != len(one) {
				t.Fatal(one, got, want)
			}
			for i, at := range places {
				if !slices.Equal(one[i].Call, got[at].Call) || len(one[i].Answers) != len(got[at].Answers) {
					t.Fatal(one, got, places)
				}
			}
			if !sameTables(one, got) {
				told++
			}
		}
		if again, _ := space.Sort(want); !sameTables(again, want) || !right(want) || space.Total(want) != space.Total(s) {
			t.Fatal(want, again)
		}
	}
	if told < 3000 {
		t.Error("too few to tell:", told)
	}
}

// P14.4: all orders of four tables, and all orders of four answers.
func TestAllOrders(t *testing.T) {
	calls, answers := terms(t, "p(A) q p(A,A) p(1)"), terms(t, "p(1) p(-1) p(a) p(f(1))")
	want := tables(t, "q; p(A): p(-1) p(1) p(a) p(f(1)); p(1); p(A,A)")
	orders(4, func(i []int) {
		orders(4, func(k []int) {
			s := opened(calls[i[0]], calls[i[1]], calls[i[2]], calls[i[3]])
			for _, at := range k {
				s, _ = space.Answer(s, space.Find(s, calls[0]), answers[at])
			}
			got, places := space.Sort(s)
			if !sameTables(got, want) {
				t.Error(i, k, got)
			}
			for n, at := range i {
				if places[n] != []int{1, 0, 3, 2}[at] {
					t.Error(i, places)
				}
			}
		})
	})
}

// orders hands on all orders of the numbers below many.
func orders(many int, visit func(l []int)) {
	var rest func(l []int)
	rest = func(l []int) {
		if len(l) == many {
			visit(l)
		}
		for i := range many {
			if !slices.Contains(l, i) {
				rest(append(slices.Clone(l), i))
			}
		}
	}
	rest(nil)
}

// P14.5: right tables stay right, if what is opened is an atom, and what is answered an instance of its call without variables.
func TestStaysRight(t *testing.T) {
	from := seeded(9)
	told := 0
	for range 400 {
		s := from.tables(5, 3)
		for range 40 {
			if from.IntN(3) == 0 {
				s, _ = space.Open(s, from.asking(s))
			} else {
				n, x := from.answering(s)
				s, _ = space.Answer(s, n, x)
			}
			if from.IntN(10) == 0 {
				s, _ = space.Sort(s)
			}
			if !space.Right(s) || !right(s) {
				t.Fatal(s)
			}
		}
		told += space.Total(s)
	}
	if told < 3000 {
		t.Error("too few to tell:", told)
	}
}

// P14.5: what is opened that is no atom, or answered that is no such instance, is done all the same: Right tells it.
func TestWrongIsDone(t *testing.T) {
	x := variable(0)
	for _, call := range [][]api.Cell{variable(7), number(3)} {
		s, n := space.Open(tables(t, "q"), call)
		if n != 1 || len(s) != 2 || len(s[1].Answers) > 0 || !slices.Equal(s[1].Call, numbered(call)) || space.Right(s) {
			t.Error(s, n)
		}
	}
	for _, answer := range [][]api.Cell{x, number(1), fun("p", x), fun("q", number(1)), fun("p", number(1), number(2))} {
		s, is := space.Answer(tables(t, "q; p(A,A): p(1,1)"), 1, answer)
		if !is || len(s) != 2 || !same(s[1].Answers, append(terms(t, "p(1,1)"), answer)) || space.Right(s) {
			t.Error(s, is)
		}
	}
}

// answers are what all calls tell of tables, a call, a place and a term.
type answers struct {
	found, at, total       int
	right, is              bool
	opened, answered, rose []api.Table
	places                 []int
}

func asked(s []api.Table, call []api.Cell, n int, x []api.Cell) answers {
	a := answers{found: space.Find(s, call), total: space.Total(s), right: space.Right(s)}
	a.opened, a.at = space.Open(s, call)
	a.answered, a.is = space.Answer(s, n, x)
	a.rose, a.places = space.Sort(s)
	return a
}

func (a answers) same(b answers) bool {
	return a.found == b.found && a.at == b.at && a.total == b.total && a.right == b.right && a.is == b.is && slices.Equal(a.places, b.places) &&
		sameTables(a.opened, b.opened) && sameTables(a.answered, b.answered) && sameTables(a.rose, b.rose)
}

// spoil writes over all that was told, and behind it as far as there is memory; no row of it has memory of another one.
func (a answers) spoil() bool {
	var lists [][][]api.Cell
	var rows [][]api.Cell
	for _, s := range [][]api.Table{a.opened, a.answered, a.rose} {
		for _, t := range s {
			lists = append(lists, t.Answers)
			rows = append(append(rows, t.Call), t.Answers...)
		}
		clear(s[:cap(s)])
	}
	clear(a.places[:cap(a.places)])
	return wiped(lists, same) && wiped(rows, slices.Equal)
}

// wiped writes over rows, one behind the other, and says whether each was still whole at its turn.
func wiped[T any](rows [][]T, same func(a []T, b []T) bool) bool {
	var was [][]T
	for _, row := range rows {
		was = append(was, slices.Clone(row))
	}
	for i, row := range rows {
		if !same(row, was[i]) {
			return false
		}
		clear(row[:cap(row)])
	}
	return true
}

// P1: whatever is handed in, the calls end, and none panics.
func TestAnything(t *testing.T) {
	from := seeded(10)
	for range 8000 {
		s := from.mixed()
		n, x := from.answering(s)
		if from.coin() {
			x = from.wild()
		}
		asked(s, from.wild(), n, x)
		asked(s, from.bent(from.asking(s)), n, from.bent(from.asking(s)))
	}
	// Far longer, and deeper, than a term may be.
	long := slices.Repeat([]api.Cell{{Kind: api.Fun, Name: "f", N: 6}}, 100000)
	for _, x := range [][]api.Cell{long, nest(100000, variable(1)), nest(100000, number(1)), nil} {
		s := []api.Table{{Call: x, Answers: [][]api.Cell{x, x}}, {Call: fun("p", variable(0)), Answers: [][]api.Cell{x}}, {Call: x}, {}}
		for n := range 6 {
			asked(s, x, n-1, x)
		}
	}
}

// P2: where there is no such table, or the answer is there already, there are the tables that were handed in, and nothing else.
func TestNothing(t *testing.T) {
	from := seeded(11)
	told := 0
	for range 5000 {
		s := from.tables(5, 5)
		n, x := from.answering(s)
		got, is := space.Answer(s, n, x)
		if is {
			continue
		}
		if told++; !sameTables(got, s) {
			t.Fatal(s, n, x, got)
		}
		if call := from.asking(s); space.Find(s, call) < -1 || (space.Find(s, call) == -1) != (find(s, call) < 0) {
			t.Fatal(s, call)
		}
	}
	if told < 2000 {
		t.Error("too few to tell:", told)
	}
}

// roomy is a copy of l with memory behind it.
func roomy[T any](l []T) []T { return slices.Grow(slices.Clone(l), 9) }

// P3: what is handed in stays as it is, and tells the same again, whatever becomes of what was told.
func TestUnchanged(t *testing.T) {
	from := seeded(12)
	for range 3000 {
		s := from.tables(6, 5)
		n, x := from.answering(s)
		call := from.asking(s)
		// Memory behind a row is not the row's: nothing may be laid there.
		s, call, x = roomy(s), roomy(call), roomy(x)
		var rows [][][]api.Cell
		for i := range s {
			s[i].Call, s[i].Answers = roomy(s[i].Call), roomy(s[i].Answers)
			rows = append(rows, slices.Clone(s[i].Answers[:cap(s[i].Answers)]))
		}
		was, behind, cells := copiedTables(s), slices.Clone(s[:cap(s)]), slices.Concat(call[:cap(call)], x[:cap(x)])
		first := asked(s, call, n, x)
		if !asked(s, call, n, x).spoil() {
			t.Fatal(s, call, n, x)
		}
		if !sameTables(s, was) || !sameTables(s[:cap(s)], behind) || !slices.Equal(cells, slices.Concat(call[:cap(call)], x[:cap(x)])) {
			t.Fatal(s, was)
		}
		for i := range s {
			if !same(s[i].Answers[:cap(s[i].Answers)], rows[i]) {
				t.Fatal(s, was)
			}
		}
		if !first.same(asked(s, call, n, x)) || !first.same(asked(was, slices.Clone(call), n, slices.Clone(x))) {
			t.Fatal(s, call, n, x, first)
		}
	}
}

// P3: two answers of one table, and two calls that are opened, are told apart, whichever came first.
func TestApart(t *testing.T) {
	s := tables(t, "p(A): p(1) p(2) p(3); q; r")
	one, _ := space.Answer(s, 0, fun("p", number(4)))
	two, _ := space.Answer(s, 0, fun("p", number(5)))
	if !sameTables(one, tables(t, "p(A): p(1) p(2) p(3) p(4); q; r")) || !sameTables(two, tables(t, "p(A): p(1) p(2) p(3) p(5); q; r")) {
		t.Error(one, two)
	}
	one, _ = space.Open(s, fun("a"))
	two, _ = space.Open(s, fun("b"))
	if !sameTables(one, tables(t, "p(A): p(1) p(2) p(3); q; r; a")) || !sameTables(two, tables(t, "p(A): p(1) p(2) p(3); q; r; b")) || len(s) != 3 {
		t.Error(one, two)
	}
}

// P3: calls that run beside each other tell what they tell alone.
func TestBesideEachOther(t *testing.T) {
	s := seeded(13).tables(30, 10)
	call, x := fun("p", variable(3), variable(4)), fun("p", number(1), number(2))
	alone := asked(s, call, 0, x)
	told := make(chan bool)
	for range 8 {
		go func() { told <- asked(s, call, 0, x).same(alone) }()
	}
	for range 8 {
		if !<-told {
			t.Error("told otherwise")
		}
	}
}

// P3: an empty row and none are the same.
func TestEmpty(t *testing.T) {
	empty := []api.Table{{Call: fun("q"), Answers: [][]api.Cell{}}, {Call: []api.Cell{}}}
	none := []api.Table{{Call: fun("q")}, {}}
	for _, many := range []int{0, 1, 2} {
		for _, x := range [][]api.Cell{nil, {}, fun("q"), fun("p", variable(0))} {
			for n := range 4 {
				a, b := asked(none[:many], x, n-1, x), asked(empty[:many], append([]api.Cell{}, x...), n-1, append([]api.Cell{}, x...))
				if !a.same(b) || many == 0 && !a.same(asked(nil, x, n-1, x)) {
					t.Error(many, x, n)
				}
			}
		}
	}
}
