package facts_test

import (
	"slices"
	"strings"
	"testing"

	"sorrel/api"
	"sorrel/facts"
)

// In this file what the chapter words is found a second time, from its words alone.

// tree is a term as its parts.
type tree struct {
	first api.Cell
	parts []tree
}

// grown is the tree that begins a row, and what stands behind; no, if none does.
func grown(t []api.Cell) (tree, []api.Cell, bool) {
	if len(t) == 0 || len(t) > 200 {
		return tree{}, nil, false
	}
	first, rest := t[0], t[1:]
	switch first.Kind {
	case 1:
		return tree{first: first}, rest, first.Name == "" && first.N >= 0 && first.N <= 999
	case 2:
		return tree{first: first}, rest, first.Name == "" && first.N > -1<<31 && first.N < 1<<31
	case 3:
		bad := strings.ContainsFunc(first.Name, func(r rune) bool { return r < 32 || r > 126 || r == '\'' })
		if bad || first.Name == "" || len(first.Name) > 12 || first.N < 0 || first.N > 6 {
			return tree{}, nil, false
		}
	default:
		return tree{}, nil, false
	}
	all := tree{first: first}
	for range first.N {
		part, more, is := grown(rest)
		if !is {
			return tree{}, nil, false
		}
		all.parts, rest = append(all.parts, part), more
	}
	return all, rest, true
}

// free says whether a tree has a variable.
func (v tree) free() bool { return v.first.Kind == 1 || slices.ContainsFunc(v.parts, tree.free) }

func (v tree) depth() int {
	deep := 0
	for _, part := range v.parts {
		deep = max(deep, part.depth())
	}
	return deep + 1
}

// fact is what the chapter says one is.
func fact(t []api.Cell) bool {
	v, rest, is := grown(t)
	return is && len(rest) == 0 && v.first.Kind == 3 && !v.free() && v.depth() < 13
}

// ahead says whether one fact stands ahead of another one.
func ahead(a []api.Cell, b []api.Cell) bool {
	for i := range a {
		if i == len(b) {
			return false
		}
		x, y := a[i], b[i]
		switch {
		case x.Kind != y.Kind:
			return x.Kind < y.Kind
		case x.N != y.N:
			return x.N < y.N
		case x.Name != y.Name:
			return x.Name < y.Name
		}
	}
	return false
}

// sorted are facts, each once, rising.
func sorted(l [][]api.Cell) [][]api.Cell {
	var to [][]api.Cell
	for _, t := range l {
		at := 0
		for at < len(to) && ahead(to[at], t) {
			at++
		}
		if at == len(to) || ahead(t, to[at]) {
			to = slices.Insert(to, at, slices.Clone(t))
		}
	}
	return to
}

// right is what the chapter says of a row.
func right(l [][]api.Cell) bool {
	for i, t := range l {
		if !fact(t) {
			return false
		}
		for _, later := range l[i+1:] {
			if !ahead(t, later) {
				return false
			}
		}
	}
	return len(l) <= 512
}

func has(l [][]api.Cell, t []api.Cell) bool {
	return slices.ContainsFunc(l, func(x []api.Cell) bool { return slices.Equal(x, t) })
}

// becomes says whether a tree is made another one, which has no variables, by what stands for variables, and by more of that.
func (v tree) becomes(other tree, stands map[int]tree) bool {
	if v.first.Kind == 1 {
		if _, is := stands[v.first.N]; !is {
			stands[v.first.N] = other
		}
		return stands[v.first.N].alike(other)
	}
	if v.first != other.first {
		return false
	}
	for i, part := range v.parts {
		if !part.becomes(other.parts[i], stands) {
			return false
		}
	}
	return true
}

func (v tree) alike(other tree) bool {
	return v.first == other.first && slices.EqualFunc(v.parts, other.parts, tree.alike)
}

// find is what L4 says of a row that may be and an atom.
func find(l [][]api.Cell, call []api.Cell) [][]api.Cell {
	c, _, _ := grown(call)
	var some [][]api.Cell
	for _, t := range l {
		if f, _, _ := grown(t); c.becomes(f, map[int]tree{}) {
			some = append(some, t)
		}
	}
	return some
}

// P12.1: Fact and Right are as L1 says, of any cells.
func TestFactModel(t *testing.T) {
	from := seeded(1)
	var count, rows [2]int
	for range 40000 {
		x := from.near()
		if from.IntN(6) == 0 {
			x = from.wild()
		}
		if facts.Fact(x) != fact(x) {
			t.Fatal(x)
		}
		if fact(x) {
			count[0]++
		} else {
			count[1]++
		}
	}
	for range 20000 {
		l := from.mixed(t)
		if facts.Right(l) != right(l) {
			t.Fatal(l)
		}
		if right(l) {
			rows[0]++
		} else {
			rows[1]++
		}
	}
	if min(count[0], count[1], rows[0], rows[1]) < 4000 {
		t.Error("too few to tell:", count, rows)
	}
}

// P12.1: Has, Add and Drop are as L2 and L3 say, of any cells.
func TestRowsModel(t *testing.T) {
	from := seeded(2)
	var count [5]int
	for range 20000 {
		l := from.row(t, 8)
		x := from.near()
		if len(l) > 0 && from.coin() {
			x = l[from.IntN(len(l))]
		}
		if facts.Has(l, x) != has(l, x) {
			t.Fatal(l, x)
		}
		more, e := facts.Add(l, x)
		less, f := facts.Drop(l, x)
		switch {
		case !fact(x):
			count[0]++
			if len(more)+len(less) > 0 || e != api.ErrFact || f != api.ErrFact {
				t.Fatal(l, x, more, e, less, f)
			}
		case has(l, x):
			count[1]++
			at := slices.IndexFunc(l, func(y []api.Cell) bool { return slices.Equal(x, y) })
			if e != api.OK || f != api.OK || !same(more, l) || !same(less, slices.Delete(copied(l), at, at+1)) {
				t.Fatal(l, x, more, e, less, f)
			}
		default:
			count[2]++
			if e != api.OK || f != api.ErrNone || len(less) > 0 || !same(more, sorted(append(slices.Clone(l), x))) {
				t.Fatal(l, x, more, e, less, f)
			}
		}
	}
	if min(count[0], count[1], count[2]) < 2000 {
		t.Error("too few to tell:", count)
	}
}

// P12.1: Find is as L4 says.
func TestFindModel(t *testing.T) {
	from := seeded(3)
	var count [3]int
	for range 6000 {
		l, call := from.row(t, 60), from.call()
		got := facts.Find(l, call)
		if !same(got, find(l, call)) {
			t.Fatal(l, call, got)
		}
		count[min(len(got), 2)]++
	}
	if slices.Min(count[:]) < 500 {
		t.Error("too few to tell:", count)
	}
}

// P12.1: Diff is as L5 says.
func TestDiffModel(t *testing.T) {
	from := seeded(4)
	told := 0
	for range 4000 {
		a, b := from.row(t, 25), from.row(t, 25)
		if from.coin() {
			b = sorted(slices.Concat(a[from.IntN(len(a)+1):], b))
		}
		more, less := facts.Diff(a, b)
		var came, went [][]api.Cell
		for _, x := range b {
			if !has(a, x) {
				came = append(came, x)
			}
		}
		for _, x := range a {
			if !has(b, x) {
				went = append(went, x)
			}
		}
		if !same(more, came) || !same(less, went) {
			t.Fatal(a, b, more, less)
		}
		if len(more) > 0 && len(less) > 0 && len(less) < len(a) {
			told++
		}
	}
	if told < 1500 {
		t.Error("too few to tell:", told)
	}
}
