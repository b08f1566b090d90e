package unify_test

import (
	"slices"
	"testing"

	"sorrel/api"
	"sorrel/unify"
)

// model are the classes of two terms, found by the chapter's words alone, again and again, till nothing is new.
type model struct {
	cells []api.Cell
	class []int
}

func modelled(a []api.Cell, b []api.Cell) model {
	m := model{cells: slices.Concat(a, b)}
	for at := range m.cells {
		m.class = append(m.class, at)
	}
	m.one(0, len(a))
	for again := true; again; {
		again = false
		for x, c := range m.cells {
			for y, d := range m.cells[:x] {
				if c.Kind == api.Var && c == d {
					again = m.one(x, y) || again
				}
				if c.Kind == api.Fun && c == d && m.class[x] == m.class[y] {
					for i, part := range m.parts(x) {
						again = m.one(part, m.parts(y)[i]) || again
					}
				}
			}
		}
	}
	return m
}

// one makes one class of two, and says whether they were two.
func (m model) one(x int, y int) bool {
	from, to := m.class[x], m.class[y]
	for at, is := range m.class {
		if is == from {
			m.class[at] = to
		}
	}
	return from != to
}

func (m model) parts(at int) []int {
	var l []int
	if m.cells[at].Kind == api.Fun {
		part := at + 1
		for range m.cells[at].N {
			l = append(l, part)
			part = end(m.cells, part)
		}
	}
	return l
}

func (m model) clash() bool {
	leads := map[int][]int{}
	for x, c := range m.cells {
		for y, d := range m.cells {
			if m.class[x] == m.class[y] && c.Kind != api.Var && d.Kind != api.Var && c != d {
				return true
			}
		}
		for _, part := range m.parts(x) {
			leads[m.class[x]] = append(leads[m.class[x]], m.class[part])
		}
	}
	return slices.ContainsFunc(m.class, func(x int) bool { return reaches(leads, x, x) })
}

// reaches says whether one leads to another one in one step or more.
func reaches(leads map[int][]int, from int, to int) bool {
	met := map[int]bool{}
	todo := []int{from}
	for len(todo) > 0 {
		last := todo[len(todo)-1]
		todo = todo[:len(todo)-1]
		for _, next := range leads[last] {
			if !met[next] {
				met[next] = true
				todo = append(todo, next)
			}
		}
	}
	return met[to]
}

// term is that of a class. It must not be within itself.
func (m model) term(class int) []api.Cell {
	var least []api.Cell
	for at, c := range m.cells {
		if m.class[at] != class {
			continue
		}
		if c.Kind != api.Var {
			t := []api.Cell{c}
			for _, part := range m.parts(at) {
				t = append(t, m.term(m.class[part])...)
			}
			return t
		}
		if least == nil || c.N < least[0].N {
			least = []api.Cell{c}
		}
	}
	return least
}

// mgu is what C1 says of two terms.
func (m model) mgu() ([]api.Bind, api.Errno) {
	if m.clash() {
		return nil, api.ErrNone
	}
	var s []api.Bind
	for v := range 1000 {
		at := slices.Index(m.cells, variable(v)[0])
		if at < 0 {
			continue
		}
		t := m.term(m.class[at])
		if len(t) > api.MaxCells {
			return nil, api.ErrBig
		}
		if !same(t, variable(v)) {
			s = append(s, bind(v, t))
		}
	}
	return s, api.OK
}

// small are all terms of at most as many cells, of few variables and names.
func small(cells int) [][]api.Cell {
	by := make([][][]api.Cell, cells+1)
	by[1] = [][]api.Cell{variable(0), variable(1), variable(2), number(1), fun("a")}
	for n := 2; n <= cells; n++ {
		for _, x := range by[n-1] {
			by[n] = append(by[n], fun("s", x))
		}
		for left := 1; left < n-1; left++ {
			for _, x := range by[left] {
				for _, y := range by[n-1-left] {
					by[n] = append(by[n], fun("f", x, y))
				}
			}
		}
	}
	return slices.Concat(by...)
}

// P3.1, C1: all small terms, against the model.
func TestMguSmall(t *testing.T) {
	count := map[api.Errno]int{}
	l := small(4)
	for _, a := range l {
		for _, b := range l {
			want, e := modelled(a, b).mgu()
			count[e]++
			if s, got := unify.Mgu(a, b); got != e || !alike(s, want) {
				t.Fatal(a, b, "told", s, got, "wanted", want, e)
			}
		}
	}
	if count[api.OK] < 1000 || count[api.ErrNone] < 1000 {
		t.Error("too few of one kind to tell:", count)
	}
}

// P3.1, C1: grown terms, against the model.
func TestMguGrown(t *testing.T) {
	count := map[api.Errno]int{}
	from := seeded(1)
	for range 4000 {
		a, b := from.pair()
		want, e := modelled(a, b).mgu()
		count[e]++
		wantMgu(t, a, b, want, e)
	}
	if count[api.OK] < 500 || count[api.ErrNone] < 500 {
		t.Error("too few of one kind to tell:", count)
	}
}

// P3.1, C1: long terms of a few variables, against the model, so that terms get too long as well.
func TestMguLong(t *testing.T) {
	count := map[api.Errno]int{}
	from := seeded(2)
	for range 600 {
		var l, m [][]api.Cell
		for v := range 6 {
			// Each leads to variables above, mostly, so that few are within themselves.
			above := []int{v + 1, v + 1, v + 2, v + 3 - 3*(from.IntN(9)/8)}
			l = append(l, variable(v))
			m = append(m, nest(from.IntN(14), fun("g", from.term(2, above), from.term(2, above))))
		}
		from.Shuffle(len(l), func(i int, j int) { l[i], l[j], m[i], m[j] = l[j], l[i], m[j], m[i] })
		a, b := fun("row", l...), fun("row", m...)
		if len(b) > api.MaxCells {
			continue
		}
		want, e := modelled(a, b).mgu()
		count[e]++
		wantMgu(t, a, b, want, e)
	}
	if min(count[api.OK], count[api.ErrNone], count[api.ErrBig]) < 20 {
		t.Error("too few of one kind to tell:", count)
	}
}

// P3.1, C2: all small terms, and grown ones, against what the words say of each variable.
func TestMatchSmall(t *testing.T) {
	l := small(4)
	from := seeded(3)
	for range 100 {
		a, b := from.pair()
		l = append(l, a, b)
	}
	yes := 0
	for _, p := range l {
		for _, x := range l {
			want, is := matched(p, x)
			if is {
				yes++
			}
			if s, got := unify.Match(p, x); got != is || !alike(s, want) {
				t.Fatal(p, x, "told", s, got, "wanted", want, is)
			}
		}
	}
	if yes < 1000 {
		t.Error("too few that match:", yes)
	}
}

// matched goes down both terms, part by part.
func matched(p []api.Cell, t []api.Cell) ([]api.Bind, bool) {
	stands := map[int][]api.Cell{}
	var down func(p []api.Cell, t []api.Cell) bool
	down = func(p []api.Cell, t []api.Cell) bool {
		if p[0].Kind == api.Var {
			met, is := stands[p[0].N]
			stands[p[0].N] = t
			return !is || same(met, t)
		}
		if p[0] != t[0] {
			return false
		}
		if p[0].Kind == api.Fun {
			at, in := 1, 1
			for range p[0].N {
				if !down(p[at:end(p, at)], t[in:end(t, in)]) {
					return false
				}
				at, in = end(p, at), end(t, in)
			}
		}
		return true
	}
	if !down(p, t) {
		return nil, false
	}
	var s []api.Bind
	for v := range 1000 {
		if x, is := stands[v]; is && !same(x, variable(v)) {
			s = append(s, bind(v, x))
		}
	}
	return s, true
}

// P3.1, C3: all small terms, and grown ones, against pairs of variables.
func TestVariantSmall(t *testing.T) {
	l := small(4)
	from := seeded(4)
	for range 100 {
		a, b := from.pair()
		l = append(l, a, b)
	}
	yes := 0
	for _, a := range l {
		for _, b := range l {
			want := paired(a, b)
			if want {
				yes++
			}
			if unify.Variant(a, b) != want {
				t.Fatal(a, b, want)
			}
		}
	}
	if yes < 1000 {
		t.Error("too few variants:", yes)
	}
}

// paired says whether each variable of either meets just one of the other one, and all else is the same.
func paired(a []api.Cell, b []api.Cell) bool {
	if len(a) != len(b) {
		return false
	}
	there, back := map[int]int{}, map[int]int{}
	for i, c := range a {
		d := b[i]
		if c.Kind != api.Var || d.Kind != api.Var {
			if c != d {
				return false
			}
			continue
		}
		to, is := there[c.N]
		of, was := back[d.N]
		if is && to != d.N || was && of != c.N {
			return false
		}
		there[c.N], back[d.N] = d.N, c.N
	}
	return true
}
