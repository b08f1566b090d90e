package space_test

import (
	"slices"
	"testing"

	"sorrel/api"
	"sorrel/space"
	"sorrel/term"
)

// In this file what the chapter words is found a second time, from its words alone; of layer 1 only which terms are right is asked.

// numbered is a row whose variables are numbered as they come.
func numbered(t []api.Cell) []api.Cell {
	var met []int
	to := slices.Clone(t)
	for i, c := range t {
		if c.Kind != 1 {
			continue
		}
		if !slices.Contains(met, c.N) {
			met = append(met, c.N)
		}
		to[i].N = slices.Index(met, c.N)
	}
	return to
}

// cells is how many cells the first term of a row has.
func cells(t []api.Cell) int {
	many := 0
	for open := 1; open > 0; open-- {
		if t[many].Kind == 3 {
			open += t[many].N
		}
		many++
	}
	return many
}

// instance says whether a right term without variables is one of a right call.
func instance(call []api.Cell, t []api.Cell) bool {
	stands := map[int][]api.Cell{}
	for _, c := range call {
		if c.Kind != 1 {
			if c != t[0] {
				return false
			}
			t = t[1:]
			continue
		}
		part := t[:cells(t)]
		if _, is := stands[c.N]; is && !slices.Equal(stands[c.N], part) {
			return false
		}
		stands[c.N] = part
		t = t[len(part):]
	}
	return true
}

func has(l [][]api.Cell, t []api.Cell) bool {
	return slices.ContainsFunc(l, func(x []api.Cell) bool { return slices.Equal(x, t) })
}

// ahead says whether one term stands ahead of another one.
func ahead(a []api.Cell, b []api.Cell) bool {
	for i := range min(len(a), len(b)) {
		x, y := a[i], b[i]
		switch {
		case x.Kind != y.Kind:
			return x.Kind < y.Kind
		case x.N != y.N:
			return x.N < y.N
		case x.Name != y.Name:
			return x.Name < y.Name
		}
	}
	return false
}

// right is what the chapter says of tables.
func right(s []api.Table) bool {
	var calls [][]api.Cell
	for _, t := range s {
		if !term.Right(t.Call) || t.Call[0].Kind != 3 || !slices.Equal(t.Call, numbered(t.Call)) || has(calls, t.Call) {
			return false
		}
		calls = append(calls, t.Call)
		for i, x := range t.Answers {
			free := slices.ContainsFunc(x, func(c api.Cell) bool { return c.Kind == 1 })
			if !term.Right(x) || free || !instance(t.Call, x) || has(t.Answers[:i], x) {
				return false
			}
		}
	}
	return true
}

// find is what N1 says.
func find(s []api.Table, call []api.Cell) int {
	for n, t := range s {
		if slices.Equal(t.Call, numbered(call)) {
			return n
		}
	}
	return -1
}

// open is what N2 says.
func open(s []api.Table, call []api.Cell) ([]api.Table, int) {
	if n := find(s, call); n >= 0 {
		return s, n
	}
	return append(copiedTables(s), api.Table{Call: numbered(call)}), len(s)
}

// answer is what N3 says.
func answer(s []api.Table, n int, t []api.Cell) ([]api.Table, bool) {
	if n < 0 || n >= len(s) || has(s[n].Answers, t) {
		return s, false
	}
	s = copiedTables(s)
	s[n].Answers = append(s[n].Answers, t)
	return s, true
}

// sorted is what N4 says: each one's place is how many are ahead of it.
func sorted(s []api.Table) ([]api.Table, []int) {
	all, places := make([]api.Table, len(s)), make([]int, len(s))
	for i, t := range s {
		for _, other := range s {
			if ahead(other.Call, t.Call) {
				places[i]++
			}
		}
		l := make([][]api.Cell, len(t.Answers))
		for _, x := range t.Answers {
			at := 0
			for _, other := range t.Answers {
				if ahead(other, x) {
					at++
				}
			}
			l[at] = x
		}
		all[places[i]] = api.Table{Call: t.Call, Answers: l}
	}
	return all, places
}

// P14.1, N1 and N2: Find and Open are as these say, of tables that are right and any atom.
func TestFindOpenModel(t *testing.T) {
	from := seeded(1)
	var count [2]int
	for range 20000 {
		s := from.tables(8, 3)
		call := from.asking(s)
		n := find(s, call)
		if got := space.Find(s, call); got != n {
			t.Fatal(s, call, got)
		}
		next, at := space.Open(s, call)
		want, place := open(s, call)
		if !sameTables(next, want) || at != place {
			t.Fatal(s, call, next, at)
		}
		count[min(n, 0)+1]++
	}
	if slices.Min(count[:]) < 5000 {
		t.Error("too few to tell:", count)
	}
}

// P14.1, N3: Answer is as this says, of tables that are right, any place and any atom.
func TestAnswerModel(t *testing.T) {
	from := seeded(2)
	var count [3]int
	for range 20000 {
		s := from.tables(6, 6)
		n, x := from.answering(s)
		next, is := space.Answer(s, n, x)
		want, came := answer(s, n, x)
		if !sameTables(next, want) || is != came {
			t.Fatal(s, n, x, next, is)
		}
		switch {
		case n < 0 || n >= len(s):
			count[0]++
		case came:
			count[1]++
		default:
			count[2]++
		}
	}
	if slices.Min(count[:]) < 3000 {
		t.Error("too few to tell:", count)
	}
}

// P14.1, N4: Sort and Total are as this says, of tables that are right.
func TestSortModel(t *testing.T) {
	from := seeded(3)
	told := 0
	for range 10000 {
		s := from.tables(12, 8)
		got, places := space.Sort(s)
		want, stand := sorted(s)
		if !sameTables(got, want) || !slices.Equal(places, stand) {
			t.Fatal(s, got, places)
		}
		many := 0
		for _, one := range s {
			for range one.Answers {
				many++
			}
		}
		if space.Total(s) != many || space.Total(got) != many {
			t.Fatal(s, many)
		}
		if !slices.IsSorted(places) && len(s) > 3 {
			told++
		}
	}
	if told < 4000 {
		t.Error("too few to tell:", told)
	}
}

// P14.1, N4: Right is as this says, of any tables.
func TestRightModel(t *testing.T) {
	from := seeded(4)
	var count [2]int
	for range 30000 {
		s := from.mixed()
		is := right(s)
		if space.Right(s) != is {
			t.Fatal(s, is)
		}
		if is {
			count[0]++
		} else {
			count[1]++
		}
	}
	if slices.Min(count[:]) < 6000 {
		t.Error("too few to tell:", count)
	}
}

// P14.1: acts that are done one behind the other, held against the model at each.
func TestActsModel(t *testing.T) {
	from := seeded(5)
	for range 300 {
		var s, want []api.Table
		for range 60 {
			if from.IntN(3) == 0 {
				call := from.asking(want)
				next, at := space.Open(s, call)
				model, place := open(want, call)
				s, want = next, model
				if at != place || space.Find(s, call) != place {
					t.Fatal(s, call, at)
				}
			} else {
				n, x := from.answering(want)
				next, is := space.Answer(s, n, x)
				model, came := answer(want, n, x)
				s, want = next, model
				if is != came {
					t.Fatal(s, n, x, is)
				}
			}
			if !sameTables(s, want) || !right(s) || !space.Right(s) {
				t.Fatal(s, want)
			}
		}
		got, places := space.Sort(s)
		if order, stand := sorted(want); !sameTables(got, order) || !slices.Equal(places, stand) {
			t.Fatal(s, got, places)
		}
	}
}
