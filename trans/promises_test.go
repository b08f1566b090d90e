package trans_test

import (
	"slices"
	"testing"

	"sorrel/api"
	"sorrel/facts"
	"sorrel/trans"
)

// P13.2: whatever is done to a base, it stays right; its facts stay until a transaction is committed.
func TestStaysRight(t *testing.T) {
	from := seeded(4)
	var count [6]int
	for range 300 {
		b := api.Base{Facts: from.row(), Ver: from.IntN(9)}
		for range 60 {
			was := copiedBase(b)
			var e api.Errno
			kind := from.IntN(12)
			switch {
			case kind < 2:
				b, e = trans.Begin(b)
			case kind < 9:
				c := from.change(b.Facts)
				if from.IntN(8) == 0 {
					c.T = from.near()
				}
				b, e = trans.Change(b, c)
			case kind < 11:
				b, _, _, e = trans.Commit(b)
			default:
				b, e = trans.Back(b)
			}
			committed := e == api.OK && (kind == 9 || kind == 10)
			switch {
			case !trans.Right(b):
				t.Fatal(was, kind, b)
			case !committed && (!same(b.Facts, was.Facts) || b.Ver != was.Ver):
				t.Fatal(was, kind, b)
			case committed && b.Ver != was.Ver+1:
				t.Fatal(was, b)
			case e != api.OK && !sameBase(b, was):
				t.Fatal(was, kind, b, e)
			}
			count[map[api.Errno]int{api.OK: 0, api.ErrOn: 1, api.ErrOff: 2, api.ErrFact: 3, api.ErrBig: 4}[e]]++
			if committed && !same(b.Facts, was.Facts) {
				count[5]++
			}
		}
	}
	if slices.Min(count[:]) < 100 {
		t.Error("too few to tell:", count)
	}
}

// P13.2: from a Ver below 2^40 a commit leads to a base that is right; from 2^40 it leads on, too, to one that is not.
func TestLastVer(t *testing.T) {
	for ver, stays := range map[int]bool{0: true, 1<<40 - 2: true, 1<<40 - 1: true, 1 << 40: false} {
		b := must(t)(trans.Begin(api.Base{Ver: ver}))
		b = must(t)(change(b, true, fun("p")))
		next, came, went, e := trans.Commit(b)
		if e != api.OK || next.Ver != ver+1 || !same(came, row(t, "p")) || len(went) > 0 || trans.Right(next) != stays {
			t.Error(ver, next, came, went, e)
		}
		if back, e := trans.Back(b); e != api.OK || !sameBase(back, api.Base{Ver: ver}) || !trans.Right(back) {
			t.Error(ver, back, e)
		}
	}
}

// P13.2: a transaction that is dropped leaves nothing, one that can't be committed neither: what follows is as if it had not been.
func TestLeavesNothing(t *testing.T) {
	from := seeded(5)
	var count [2]int
	for range 600 {
		old := api.Base{Facts: from.row(), Ver: from.IntN(9)}
		b := must(t)(trans.Begin(old))
		for range from.IntN(20) {
			c := from.change(old.Facts)
			b = must(t)(change(b, c.Add, c.T))
		}
		tried, came, went, e := trans.Commit(b)
		if e == api.ErrBig {
			count[0]++
			if !sameBase(tried, b) || len(came)+len(went) > 0 {
				t.Fatal(b, tried, came, went)
			}
			b = tried
		}
		count[1]++
		back := must(t)(trans.Back(b))
		if !sameBase(back, old) {
			t.Fatal(old, back)
		}
		c := from.change(old.Facts)
		first, second := must(t)(trans.Begin(old)), must(t)(trans.Begin(back))
		first, second = must(t)(change(first, c.Add, c.T)), must(t)(change(second, c.Add, c.T))
		a, came, went, e := trans.Commit(first)
		b, cameThen, wentThen, f := trans.Commit(second)
		if e != f || !sameBase(a, b) || !same(came, cameThen) || !same(went, wentThen) {
			t.Fatal(a, b, e, f)
		}
	}
	if slices.Min(count[:]) < 50 {
		t.Error("too few to tell:", count)
	}
}

// P13.3: what came and what went make the facts behind of those ahead; Now told them.
func TestWhatCame(t *testing.T) {
	from := seeded(6)
	told := 0
	for range 3000 {
		b := from.base()
		now := trans.Now(b)
		next, came, went, e := trans.Commit(b)
		if e != api.OK {
			continue
		}
		if !same(next.Facts, now) || !facts.Right(came) || !facts.Right(went) {
			t.Fatal(b, next, came, went, now)
		}
		for _, x := range came {
			if has(b.Facts, x) || !has(now, x) {
				t.Fatal(b, x)
			}
		}
		for _, x := range went {
			if !has(b.Facts, x) || has(now, x) {
				t.Fatal(b, x)
			}
		}
		if made := sorted(slices.Concat(apart(b.Facts, went), came)); !same(made, now) {
			t.Fatal(b, next, came, went)
		}
		if len(came) > 1 && len(went) > 1 {
			told++
		}
	}
	if told < 300 {
		t.Error("too few to tell:", told)
	}
}

// lastAlone are the last changes of each fact, in order.
func lastAlone(l []api.Change) []api.Change {
	var to []api.Change
	for i, c := range l {
		if !slices.ContainsFunc(l[i+1:], func(later api.Change) bool { return slices.Equal(later.T, c.T) }) {
			to = append(to, c)
		}
	}
	return to
}

// sameEnd says whether two bases are committed to the same.
func sameEnd(a api.Base, b api.Base) bool {
	next, came, went, e := trans.Commit(a)
	other, cameThen, wentThen, f := trans.Commit(b)
	return e == api.OK && f == api.OK && sameBase(next, other) && same(came, cameThen) && same(went, wentThen) && same(trans.Now(a), trans.Now(b))
}

// P13.4: of changes of one fact the last one alone counts; what it says is so behind the commit.
func TestLastCounts(t *testing.T) {
	from := seeded(7)
	told := 0
	for range 3000 {
		b := from.roomy()
		alone := copiedBase(b)
		alone.Todo = lastAlone(b.Todo)
		if !sameEnd(b, alone) {
			t.Fatal(b, alone)
		}
		now := trans.Now(b)
		for _, c := range alone.Todo {
			if facts.Has(now, c.T) != c.Add {
				t.Fatal(b, c, now)
			}
		}
		if len(alone.Todo)+3 < len(b.Todo) {
			told++
		}
	}
	if told < 500 {
		t.Error("too few to tell:", told)
	}
}

// roomy is a base with a transaction under way, of few facts and many changes.
func (from source) roomy() api.Base {
	b := from.base()
	b.On, b.Facts = true, b.Facts[:min(20, len(b.Facts))]
	for range from.IntN(30) {
		b.Todo = append(b.Todo, from.change(b.Facts))
	}
	return b
}

// P13.4: changes of unlike facts may be told in any order.
func TestAnyOrder(t *testing.T) {
	from := seeded(8)
	told := 0
	for range 3000 {
		b := from.roomy()
		other := copiedBase(b)
		// Changes of one fact keep their order: the first place that it has is that of its first change, and so on.
		other.Todo = from.shuffled(other.Todo)
		for i, c := range other.Todo {
			at := 0
			for _, earlier := range other.Todo[:i] {
				if slices.Equal(earlier.T, c.T) {
					at++
				}
			}
			other.Todo[i].Add = ofFact(b.Todo, c.T)[at].Add
		}
		if !sameEnd(b, other) {
			t.Fatal(b, other)
		}
		alone := copiedBase(b)
		alone.Todo = from.shuffled(lastAlone(b.Todo))
		if !sameEnd(b, alone) {
			t.Fatal(b, alone)
		}
		if !sameChanges(b.Todo, other.Todo) && len(alone.Todo) > 3 {
			told++
		}
	}
	if told < 1000 {
		t.Error("too few to tell:", told)
	}
}

// ofFact are the changes of one fact, in order.
func ofFact(l []api.Change, t []api.Cell) []api.Change {
	var to []api.Change
	for _, c := range l {
		if slices.Equal(c.T, t) {
			to = append(to, c)
		}
	}
	return to
}

// answers are what all calls tell of a base and a change.
type answers struct {
	right, zero                     bool
	began, changed, done, dropped   api.Base
	now, came, went                 [][]api.Cell
	beganTo, changedTo, doneTo, off api.Errno
}

func asked(b api.Base, c api.Change) answers {
	a := answers{right: trans.Right(b), zero: trans.Right(trans.New()), now: trans.Now(b)}
	a.began, a.beganTo = trans.Begin(b)
	a.changed, a.changedTo = trans.Change(b, c)
	a.done, a.came, a.went, a.doneTo = trans.Commit(b)
	a.dropped, a.off = trans.Back(b)
	return a
}

func (a answers) bases() []api.Base { return []api.Base{a.began, a.changed, a.done, a.dropped} }

func (a answers) same(b answers) bool {
	return a.right == b.right && a.zero == b.zero && a.beganTo == b.beganTo && a.changedTo == b.changedTo && a.doneTo == b.doneTo && a.off == b.off &&
		slices.EqualFunc(a.bases(), b.bases(), sameBase) && same(a.now, b.now) && same(a.came, b.came) && same(a.went, b.went)
}

// spoil writes over all that was told, and behind it as far as there is memory; no row of it has memory of another one.
func (a answers) spoil() bool {
	rows := slices.Concat(a.now, a.came, a.went)
	lists := [][][]api.Cell{a.now, a.came, a.went}
	for _, b := range a.bases() {
		lists = append(lists, b.Facts)
		rows = append(rows, b.Facts...)
		for i, c := range b.Todo {
			rows = append(rows, c.T)
			b.Todo[i] = api.Change{}
		}
		for i := range b.Todo[:cap(b.Todo)] {
			b.Todo[:cap(b.Todo)][i] = api.Change{}
		}
	}
	for _, l := range lists {
		for i := range l[:cap(l)] {
			l[:cap(l)][i] = nil
		}
	}
	was := copied(rows)
	for i, row := range rows {
		if !slices.Equal(row, was[i]) {
			return false
		}
		for k := range row[:cap(row)] {
			row[:cap(row)][k] = api.Cell{Kind: -9}
		}
	}
	return true
}

// P1: whatever is handed in, the calls end, and none panics.
func TestAnything(t *testing.T) {
	from := seeded(9)
	for range 4000 {
		asked(from.mixed(), api.Change{Add: from.coin(), T: from.near()})
	}
	// Gone into, these would nest deeper than a stack reaches.
	long := slices.Repeat([]api.Cell{{Kind: api.Fun, Name: "f", N: 6}}, 1000000)
	for _, x := range [][]api.Cell{long, nest(1000000, number(1)), nil} {
		for _, on := range []bool{false, true} {
			c := api.Change{Add: on, T: x}
			asked(api.Base{Facts: [][]api.Cell{x}, Ver: 1<<63 - 1, On: on, Todo: []api.Change{c, {T: fun("p")}}}, c)
			asked(api.Base{Facts: numbered(2000), Ver: -1, On: on, Todo: []api.Change{c, {Add: true, T: fun("p")}}}, c)
		}
	}
}

// P2: with an error, there is the base that was handed in, and nothing else; the error that is named first is told.
func TestErrors(t *testing.T) {
	from := seeded(10)
	var count [4]int
	for range 2000 {
		b, x := from.base(), from.near()
		a := asked(b, api.Change{Add: from.coin(), T: x})
		if (a.beganTo == api.ErrOn) == (a.off == api.ErrOff) || (a.beganTo == api.ErrOn) != b.On {
			t.Fatal(b, a.beganTo, a.off)
		}
		for i, e := range []api.Errno{a.beganTo, a.changedTo, a.doneTo, a.off} {
			if e == api.OK {
				continue
			}
			count[i]++
			if !sameBase(a.bases()[i], b) {
				t.Fatal(i, b, a.bases()[i])
			}
		}
		if !b.On && (a.changedTo != api.ErrOff || a.doneTo != api.ErrOff) {
			t.Fatal(b, a.changedTo, a.doneTo)
		}
		if a.doneTo != api.OK && (a.came != nil || a.went != nil) {
			t.Fatal(b, a.came, a.went)
		}
	}
	if slices.Min(count[:]) < 300 {
		t.Error("too few to tell:", count)
	}
}

// P3: what is handed in stays as it is, and tells the same again, whatever becomes of what was told.
func TestUnchanged(t *testing.T) {
	from := seeded(11)
	for range 1500 {
		b, c := from.base(), api.Change{Add: from.coin(), T: slices.Grow(from.near(), 9)}
		// Memory behind a row is not the row's: nothing may be laid there.
		b.Facts, b.Todo = slices.Grow(b.Facts, 9), slices.Grow(b.Todo, 9)
		rows, todo, cells := slices.Clone(b.Facts[:cap(b.Facts)]), slices.Clone(b.Todo[:cap(b.Todo)]), slices.Clone(c.T[:cap(c.T)])
		was, first := copiedBase(b), asked(b, c)
		if !asked(b, c).spoil() {
			t.Fatal(b, c)
		}
		if !sameBase(b, was) || !same(b.Facts[:cap(b.Facts)], rows) || !sameChanges(b.Todo[:cap(b.Todo)], todo) || !slices.Equal(c.T[:cap(c.T)], cells) {
			t.Fatal(b, was)
		}
		if !first.same(asked(b, c)) || !first.same(asked(was, api.Change{Add: c.Add, T: slices.Clone(c.T)})) {
			t.Fatal(b, c, first)
		}
	}
}

// P3: two changes of one base are told apart, whichever came first.
func TestApart(t *testing.T) {
	b := begun(t, row(t, "a"), changes(t, "+b +c +d"))
	one, two := must(t)(change(b, true, fun("x"))), must(t)(change(b, false, fun("a")))
	if !sameChanges(one.Todo, changes(t, "+b +c +d +x")) || !sameChanges(two.Todo, changes(t, "+b +c +d -a")) || len(b.Todo) != 3 {
		t.Error(one, two, b)
	}
	if !same(trans.Now(one), row(t, "a b c d x")) || !same(trans.Now(two), row(t, "b c d")) {
		t.Error(trans.Now(one), trans.Now(two))
	}
}

// P3: calls that run beside each other tell what they tell alone.
func TestBesideEachOther(t *testing.T) {
	from := seeded(12)
	b, c := from.roomy(), api.Change{Add: true, T: fun("z")}
	alone := asked(b, c)
	told := make(chan bool)
	for range 8 {
		go func() { told <- asked(b, c).same(alone) }()
	}
	for range 8 {
		if !<-told {
			t.Error("told otherwise")
		}
	}
}

// P3: an empty row and none are the same.
func TestEmpty(t *testing.T) {
	for _, on := range []bool{false, true} {
		none, empty := api.Base{On: on}, api.Base{Facts: [][]api.Cell{}, On: on, Todo: []api.Change{}}
		for _, x := range [][]api.Cell{nil, {}, fun("p")} {
			if !asked(none, api.Change{T: x}).same(asked(empty, api.Change{T: x})) {
				t.Error(on, x)
			}
		}
	}
	if trans.Right(api.Base{On: true, Todo: []api.Change{{T: nil}}}) || trans.Right(api.Base{On: true, Todo: []api.Change{{T: []api.Cell{}}}}) {
		t.Error("no cells")
	}
}
