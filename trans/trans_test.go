package trans_test

import (
	"slices"
	"testing"

	"sorrel/api"
	"sorrel/trans"
)

// The chapter's examples.
func TestExamples(t *testing.T) {
	b := must(t)(trans.Begin(trans.New()))
	if b, e := trans.Begin(b); e != api.ErrOn || !sameBase(b, api.Base{On: true}) {
		t.Error(b, e)
	}
	b = must(t)(change(b, true, fun("p")))
	b = must(t)(change(b, false, fun("p")))
	b, came, went, e := trans.Commit(b)
	if e != api.OK || !sameBase(b, api.Base{Ver: 1}) || len(came)+len(went) > 0 {
		t.Error(b, came, went, e)
	}
	b = must(t)(trans.Begin(api.Base{Facts: row(t, "p")}))
	b = must(t)(change(b, false, fun("p")))
	b, came, went, e = trans.Commit(b)
	if e != api.OK || !sameBase(b, api.Base{Ver: 1}) || len(came) > 0 || !same(went, row(t, "p")) {
		t.Error(b, came, went, e)
	}
}

func change(b api.Base, add bool, t []api.Cell) (api.Base, api.Errno) {
	return trans.Change(b, api.Change{Add: add, T: t})
}

// P13.1, M1: a new base is zero, and right.
func TestNew(t *testing.T) {
	b := trans.New()
	if b.Facts != nil || b.Ver != 0 || b.On || b.Todo != nil || !trans.Right(b) || len(trans.Now(b)) > 0 {
		t.Error(b)
	}
}

// P13.1, M1: bases that are right, up to the edges of what may be.
func TestRight(t *testing.T) {
	many := slices.Repeat(changes(t, "+a -a +p(1)"), 400)
	for i, b := range []api.Base{
		{},
		{On: true},
		{Facts: [][]api.Cell{}, Todo: []api.Change{}},
		{Ver: 1},
		{Ver: 1 << 40},
		{Ver: 1 << 40, On: true, Todo: changes(t, "-a")},
		{Facts: row(t, "a b p(1) p(f(1)) q(1,2)"), Ver: 3},
		{Facts: row(t, "a b"), On: true, Todo: changes(t, "+a +a -c -a +b")},
		{Facts: numbered(512), Ver: 1, On: true, Todo: changes(t, "+a")},
		{On: true, Todo: many},
		{On: true, Todo: []api.Change{{T: nest(11, fun("a"))}, {Add: true, T: nest(10, fun("f", number(1)))}}},
	} {
		if !trans.Right(b) {
			t.Error(i)
		}
	}
}

// P13.1, M1: bases that are not right, each for one reason.
func TestNotRight(t *testing.T) {
	for i, b := range []api.Base{
		{Ver: -1},
		{Ver: -1 << 63},
		{Ver: 1<<40 + 1},
		{Ver: 1<<63 - 1},
		{Ver: -1, On: true},
		{Facts: row(t, "b a")},
		{Facts: row(t, "a a")},
		{Facts: row(t, "a 'B'"), On: true},
		{Facts: numbered(513)},
		{Todo: changes(t, "+a")},
		{Todo: changes(t, "-a")},
		{Facts: row(t, "a"), Todo: changes(t, "+a -a")},
	} {
		if trans.Right(b) {
			t.Error(i)
		}
	}
	for i, x := range noFacts() {
		if trans.Right(api.Base{Facts: [][]api.Cell{x}}) || trans.Right(api.Base{Facts: append(row(t, "a"), x), On: true}) {
			t.Error(i)
		}
		for at := range 4 {
			for _, add := range []bool{false, true} {
				b := api.Base{On: true, Todo: slices.Insert(changes(t, "+a -b +c"), at, api.Change{Add: add, T: x})}
				if trans.Right(b) {
					t.Error(i, at, add)
				}
			}
		}
	}
}

// P13.1, M2: what begins keeps all else; none begins while one is under way.
func TestBegin(t *testing.T) {
	for _, facts := range [][][]api.Cell{nil, row(t, "a p(1)"), numbered(512)} {
		for _, ver := range []int{0, 5, 1 << 40} {
			b, e := trans.Begin(api.Base{Facts: facts, Ver: ver})
			if e != api.OK || !sameBase(b, api.Base{Facts: facts, Ver: ver, On: true}) {
				t.Error(b, e)
			}
			for _, todo := range [][]api.Change{nil, changes(t, "+a -p(1)")} {
				on := api.Base{Facts: facts, Ver: ver, On: true, Todo: todo}
				if b, e := trans.Begin(on); e != api.ErrOn || !sameBase(b, on) {
					t.Error(b, e)
				}
			}
		}
	}
}

// P13.1, M2: a change goes behind all others, whatever it changes; facts and Ver stay.
func TestChange(t *testing.T) {
	l := changes(t, "+a -a +a +a -b -b +p(1) -p(f(1)) +q(1,2)")
	b := begun(t, row(t, "b"), nil)
	for i, c := range l {
		next, e := trans.Change(b, c)
		if e != api.OK || !sameBase(next, api.Base{Facts: row(t, "b"), Ver: 7, On: true, Todo: l[:i+1]}) {
			t.Fatal(i, next, e)
		}
		b = next
	}
	// A full row takes changes all the same: only what is committed needs room.
	b = begun(t, numbered(512), changes(t, "+a +b"))
	if len(b.Todo) != 2 {
		t.Error(b.Todo)
	}
}

// P13.1, M2: of what is no fact nothing is changed; that none is under way is told ahead of that.
func TestChangeErrors(t *testing.T) {
	off := api.Base{Facts: row(t, "a"), Ver: 4}
	on := api.Base{Facts: row(t, "a"), Ver: 4, On: true, Todo: changes(t, "+b -a")}
	for i, x := range append(noFacts(), fun("a"), fun("c", number(1))) {
		for _, add := range []bool{false, true} {
			if b, e := change(off, add, x); e != api.ErrOff || !sameBase(b, off) {
				t.Error(i, b, e)
			}
			b, e := change(on, add, x)
			if i < len(noFacts()) && (e != api.ErrFact || !sameBase(b, on)) {
				t.Error(i, b, e)
			}
			if i >= len(noFacts()) && (e != api.OK || len(b.Todo) != 3) {
				t.Error(i, b, e)
			}
		}
	}
}

// P13.1, M3 and M4: what comes of changes, by texts: facts, changes, facts behind, what came, what went.
func TestCommit(t *testing.T) {
	for _, x := range [][5]string{
		{"", "", "", "", ""},
		{"a b", "", "a b", "", ""},
		{"", "+b +a", "a b", "a b", ""},
		{"", "+b +b", "b", "b", ""},
		{"", "-a", "", "", ""},
		{"", "-a +a", "a", "a", ""},
		{"", "+a -a", "", "", ""},
		{"a", "+a", "a", "", ""},
		{"a", "-a", "", "", "a"},
		{"a", "-a -a", "", "", "a"},
		{"a", "-a +a", "a", "", ""},
		{"a", "+a -a", "", "", "a"},
		{"a", "-a +a -a", "", "", "a"},
		{"a c", "-b +b -c +d", "a b d", "b d", "c"},
		{"a c", "+p(2) -x +p(1) -a", "c p(1) p(2)", "p(1) p(2)", "a"},
		{"a p(1) p(2)", "-p(2) -a -p(1)", "", "", "a p(1) p(2)"},
		{"p(1) q(1,2)", "+p(f(1)) -q(1,2) +q(2,1) -p(2)", "p(1) p(f(1)) q(2,1)", "p(f(1)) q(2,1)", "q(1,2)"},
	} {
		b := begun(t, row(t, x[0]), changes(t, x[1]))
		if now := trans.Now(b); !same(now, row(t, x[2])) {
			t.Error(x, now)
		}
		next, came, went, e := trans.Commit(b)
		if e != api.OK || !sameBase(next, api.Base{Facts: row(t, x[2]), Ver: 8}) || !same(came, row(t, x[3])) || !same(went, row(t, x[4])) {
			t.Error(x, next, came, went, e)
		}
	}
}

// P13.1, M3: a fact that comes needs room at its turn, whatever goes behind it.
func TestCommitFull(t *testing.T) {
	for _, x := range []struct {
		many int
		todo string
		e    api.Errno
		now  int
	}{
		{512, "+a", api.ErrBig, 512},
		{512, "+a -a", api.ErrBig, 512},
		{512, "+a -p(0)", api.ErrBig, 511},
		{512, "-p(0) +a", api.OK, 512},
		{512, "-p(0) +a +b", api.ErrBig, 512},
		{512, "-p(0) +a +p(0)", api.ErrBig, 512},
		{512, "-p(0) -p(511) +a +b", api.OK, 512},
		{512, "+p(0) +p(511)", api.OK, 512},
		{512, "-a -b -p(600)", api.OK, 512},
		{512, "-p(3) +p(3)", api.OK, 512},
		{512, "-a +a", api.ErrBig, 512},
		{511, "+a", api.OK, 512},
		{511, "+a +a +p(0)", api.OK, 512},
		{511, "+a +b", api.ErrBig, 512},
		{511, "+a -a +b", api.OK, 512},
		{511, "+a +b -a -b", api.ErrBig, 511},
		{510, "-a +a +b", api.OK, 512},
	} {
		b := begun(t, numbered(x.many), changes(t, x.todo))
		if l := trans.Now(b); len(l) != x.now || !right(api.Base{Facts: l}) {
			t.Error(x, len(l))
		}
		next, came, went, e := trans.Commit(b)
		switch {
		case e != x.e:
			t.Error(x, e)
		case e != api.OK && (!sameBase(next, b) || came != nil || went != nil):
			t.Error(x, next.Ver, next.On, came, went)
		case e == api.OK && (next.On || len(next.Todo) > 0 || next.Ver != 8 || len(next.Facts) != x.now):
			t.Error(x, next.Ver, next.On, next.Todo)
		}
	}
}

// P13.1, M3 and M4: none ends that has not begun.
func TestOff(t *testing.T) {
	for _, b := range []api.Base{{}, {Ver: 1 << 40}, {Facts: row(t, "a p(1)"), Ver: 2}, {Facts: numbered(512)}} {
		next, came, went, e := trans.Commit(b)
		if e != api.ErrOff || !sameBase(next, b) || came != nil || went != nil {
			t.Error(next, came, went, e)
		}
		if next, e := trans.Back(b); e != api.ErrOff || !sameBase(next, b) {
			t.Error(next, e)
		}
		if l := trans.Now(b); !same(l, b.Facts) {
			t.Error(l)
		}
	}
}

// P13.1, M4: what is dropped leaves the facts and Ver that were, and nothing under way.
func TestBack(t *testing.T) {
	for _, l := range [][][]api.Cell{nil, row(t, "a p(1)"), numbered(512)} {
		for _, s := range []string{"", "+a", "-a -p(1) +b", "+x +y -x"} {
			b, e := trans.Back(begun(t, l, changes(t, s)))
			if e != api.OK || !sameBase(b, api.Base{Facts: l, Ver: 7}) {
				t.Error(b, e)
			}
			again, e := trans.Begin(b)
			if e != api.OK || !sameBase(again, api.Base{Facts: l, Ver: 7, On: true}) {
				t.Error(again, e)
			}
		}
	}
}

// P13.1, M4: what can't be done is passed over, and all behind it counts.
func TestNow(t *testing.T) {
	l := numbered(512)
	b := begun(t, l, changes(t, "+a -p(0) +b -x +c -p(511) +d -a"))
	want := slices.Concat(row(t, "b d"), l[1:511])
	if got := trans.Now(b); !same(got, want) {
		t.Error(len(got), got[0], got[1], got[2])
	}
	if next, _, _, e := trans.Commit(b); e != api.ErrBig || !sameBase(next, b) {
		t.Error(e)
	}
}
