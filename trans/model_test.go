package trans_test

import (
	"slices"
	"testing"

	"sorrel/api"
	"sorrel/facts"
	"sorrel/trans"
)

// In this file what the chapter words is found a second time, from its words alone; of layer 12 only what a fact is, and which rows may be, is asked.

// ahead says whether one fact stands ahead of another one.
func ahead(a []api.Cell, b []api.Cell) bool {
	for i := range min(len(a), len(b)) {
		x, y := a[i], b[i]
		switch {
		case x.Kind != y.Kind:
			return x.Kind < y.Kind
		case x.N != y.N:
			return x.N < y.N
		case x.Name != y.Name:
			return x.Name < y.Name
		}
	}
	return false
}

// sorted are facts, each once, rising.
func sorted(l [][]api.Cell) [][]api.Cell {
	to := copied(l)
	slices.SortFunc(to, func(a []api.Cell, b []api.Cell) int {
		switch {
		case ahead(a, b):
			return -1
		case ahead(b, a):
			return 1
		}
		return 0
	})
	return slices.CompactFunc(to, slices.Equal)
}

func has(l [][]api.Cell, t []api.Cell) bool {
	return slices.ContainsFunc(l, func(x []api.Cell) bool { return slices.Equal(x, t) })
}

// apart are the facts of a that b has not.
func apart(a [][]api.Cell, b [][]api.Cell) [][]api.Cell {
	var l [][]api.Cell
	for _, t := range a {
		if !has(b, t) {
			l = append(l, t)
		}
	}
	return l
}

// behind are the facts with all changes done, and whether there was room for all.
func behind(b api.Base) ([][]api.Cell, bool) {
	set, room := copied(b.Facts), true
	for _, c := range b.Todo {
		switch at := slices.IndexFunc(set, func(x []api.Cell) bool { return slices.Equal(x, c.T) }); {
		case c.Add && at < 0 && len(set) == 512:
			room = false
		case c.Add && at < 0:
			set = append(set, c.T)
		case !c.Add && at >= 0:
			set = slices.Delete(set, at, at+1)
		}
	}
	return sorted(set), room
}

// right is what the chapter says of a base.
func right(b api.Base) bool {
	for _, c := range b.Todo {
		if !b.On || !facts.Fact(c.T) {
			return false
		}
	}
	return facts.Right(b.Facts) && 0 <= b.Ver && b.Ver <= 1099511627776
}

// P13.1, M1: Right is as M1 says, of any base.
func TestRightModel(t *testing.T) {
	from := seeded(1)
	var count [2]int
	for range 20000 {
		b := from.mixed()
		is := right(b)
		if trans.Right(b) != is {
			t.Fatal(b)
		}
		if is {
			count[0]++
		} else {
			count[1]++
		}
	}
	if min(count[0], count[1]) < 4000 {
		t.Error("too few to tell:", count)
	}
}

// P13.1, M2: Begin and Change are as M2 says.
func TestBeginChangeModel(t *testing.T) {
	from := seeded(2)
	var count [3]int
	for range 4000 {
		b := from.base()
		begun, e := trans.Begin(b)
		after := copiedBase(b)
		after.On = true
		if !sameBase(begun, after) || (e == api.ErrOn) != b.On || (e == api.OK) == b.On {
			t.Fatal(b, begun, e)
		}
		c := api.Change{Add: from.coin(), T: from.near()}
		next, e := trans.Change(b, c)
		switch {
		case !b.On:
			count[0]++
			if e != api.ErrOff || !sameBase(next, b) {
				t.Fatal(b, c, next, e)
			}
		case !facts.Fact(c.T):
			count[1]++
			if e != api.ErrFact || !sameBase(next, b) {
				t.Fatal(b, c, next, e)
			}
		default:
			count[2]++
			after.Todo = append(after.Todo, c)
			if e != api.OK || !sameBase(next, after) {
				t.Fatal(b, c, next, e)
			}
		}
	}
	if slices.Min(count[:]) < 500 {
		t.Error("too few to tell:", count)
	}
}

// P13.1, M3 and M4: Commit, Back and Now are as M3 and M4 say.
func TestEndsModel(t *testing.T) {
	from := seeded(3)
	var count [4]int
	for range 4000 {
		b := from.base()
		l, room := behind(b)
		if got := trans.Now(b); !same(got, l) {
			t.Fatal(b, got)
		}
		done, came, went, e := trans.Commit(b)
		dropped, f := trans.Back(b)
		if !b.On {
			count[0]++
			if e != api.ErrOff || f != api.ErrOff || !sameBase(done, b) || !sameBase(dropped, b) || came != nil || went != nil {
				t.Fatal(b, done, came, went, e, dropped, f)
			}
			continue
		}
		if f != api.OK || !sameBase(dropped, api.Base{Facts: b.Facts, Ver: b.Ver}) {
			t.Fatal(b, dropped, f)
		}
		if !room {
			count[1]++
			if e != api.ErrBig || !sameBase(done, b) || came != nil || went != nil {
				t.Fatal(b, done, came, went, e)
			}
			continue
		}
		if e != api.OK || !sameBase(done, api.Base{Facts: l, Ver: b.Ver + 1}) || !same(came, apart(l, b.Facts)) || !same(went, apart(b.Facts, l)) {
			t.Fatal(b, done, came, went, e)
		}
		count[2]++
		if len(came) > 1 && len(went) > 1 {
			count[3]++
		}
	}
	if slices.Min(count[:]) < 300 {
		t.Error("too few to tell:", count)
	}
}

// P13.1: of three facts, of which some are there, all rows of up to four changes.
func TestAllSmall(t *testing.T) {
	l := row(t, "a b p(1)")
	for start := range 8 {
		var old [][]api.Cell
		for i := range l {
			if start>>i&1 == 1 {
				old = append(old, l[i])
			}
		}
		for long := range 5 {
			for pick := range power(6, long) {
				b := api.Base{Facts: old, On: true}
				for range long {
					b.Todo = append(b.Todo, api.Change{Add: pick%2 == 1, T: l[pick/2%3]})
					pick /= 6
				}
				want, _ := behind(b)
				done, came, went, e := trans.Commit(b)
				if e != api.OK || !sameBase(done, api.Base{Facts: want, Ver: 1}) || !same(trans.Now(b), want) || !same(came, apart(want, old)) || !same(went, apart(old, want)) {
					t.Fatal(b, done, came, went, e)
				}
			}
		}
	}
}

func power(n int, times int) int {
	all := 1
	for range times {
		all *= n
	}
	return all
}
