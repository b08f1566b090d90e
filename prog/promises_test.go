package prog_test

import (
	"slices"
	"testing"

	"sorrel/api"
	"sorrel/prog"
)

// P7.2: a safe clause stays safe without its last literal, but for its head.
func TestSafeWithoutLast(t *testing.T) {
	from := seeded(5)
	told, heads := 0, 0
	for range 20000 {
		c := from.clause()
		if !prog.Safe(c) {
			continue
		}
		for n := len(c.Body) - 1; n >= 0; n-- {
			told++
			if !prog.Safe(clause(fun("a"), c.Body[:n]...)) {
				t.Fatal(c, n)
			}
			if !prog.Safe(clause(c.Head, c.Body[:n]...)) {
				heads++
			}
		}
	}
	if told < 10000 || heads < 1000 {
		t.Error("too few to tell:", told, heads)
	}
}

// P7.2: in a safe clause without body the head has no variable.
func TestSafeWithoutBody(t *testing.T) {
	from := seeded(6)
	var count [2]int
	for range 5000 {
		head := from.atom()
		free := slices.ContainsFunc(head, func(c api.Cell) bool { return c.Kind == api.Var })
		if prog.Safe(clause(head)) == free {
			t.Fatal(head, free)
		}
		if free {
			count[0]++
		} else {
			count[1]++
		}
	}
	if min(count[0], count[1]) < 1000 {
		t.Error("too few to tell:", count)
	}
}

// told is a link by predicates.
type told struct {
	from, to api.Pred
	neg      bool
}

// byPreds are links, in the place of whose numbers their predicates stand.
func byPreds(l []api.Clause) map[told]bool {
	at := prog.Preds(l)
	all := map[told]bool{}
	for _, k := range prog.Links(l) {
		all[told{at[k.From], at[k.To], k.Neg}] = true
	}
	return all
}

// P7.3: links of more clauses are those of each, by predicates.
func TestLinksOfParts(t *testing.T) {
	from := seeded(7)
	for range 1500 {
		l := from.program(10)
		each := map[told]bool{}
		for _, c := range l {
			for k := range byPreds([]api.Clause{c}) {
				each[k] = true
			}
		}
		all := byPreds(l)
		for k := range each {
			if !all[k] {
				t.Fatal(l, k, "is missing")
			}
		}
		if len(all) != len(each) || len(all) != len(prog.Links(l)) {
			t.Fatal(l, all, each)
		}
		for p := range prog.Preds(l) {
			if at := prog.Preds(l)[p]; !slices.ContainsFunc(l, func(c api.Clause) bool { return slices.Contains(prog.Preds([]api.Clause{c}), at) }) {
				t.Fatal(l, at)
			}
		}
	}
}

// P7.3: the order of clauses plays no part for Preds, Links and Levels, nor does how often one stands there.
func TestOrders(t *testing.T) {
	from := seeded(8)
	var count [2]int
	for range 2000 {
		l := from.program(8)
		if from.coin() {
			l = from.leaning(8, 10)
		}
		other := from.shuffled(append(slices.Clone(l), l[:len(l)/2]...))
		if !slices.Equal(prog.Preds(l), prog.Preds(other)) || !slices.Equal(prog.Links(l), prog.Links(other)) {
			t.Fatal(l, other)
		}
		levels, is := prog.Levels(l)
		if !is {
			count[0]++
			wantNoLevels(t, other)
			continue
		}
		count[1]++
		wantLevels(t, other, levels...)
	}
	if min(count[0], count[1]) < 400 {
		t.Error("too few to tell:", count)
	}
}

// P7.4: there are levels just if no predicate leads back to itself through a negation, and then they keep each link.
func TestRound(t *testing.T) {
	from := seeded(9)
	var count [2]int
	for range 1500 {
		l := from.program(5)
		if from.coin() {
			l = from.leaning(20, 24)
		}
		levels, is := prog.Levels(l)
		if is == round(len(prog.Preds(l)), prog.Links(l)) {
			t.Fatal(l, levels, is)
		}
		if !is {
			count[0]++
			wantNoLevels(t, l)
			continue
		}
		count[1]++
		if len(levels) != len(prog.Preds(l)) || !keeps(levels, prog.Links(l)) {
			t.Fatal(l, levels)
		}
		for p, level := range levels {
			// One lower, and a link would not be kept.
			lower := slices.Clone(levels)
			lower[p]--
			if level < 0 || level > 0 && keeps(lower, prog.Links(l)) {
				t.Fatal(l, levels, p)
			}
		}
	}
	if min(count[0], count[1]) < 400 {
		t.Error("too few to tell:", count)
	}
}

// P1: whatever is handed in, the calls end, and none panics.
func TestAnything(t *testing.T) {
	from := seeded(10)
	for range 10000 {
		l := make([]api.Clause, from.IntN(5))
		for i := range l {
			l[i] = from.wildClause()
			prog.Safe(l[i])
		}
		prog.Right(l)
		many := len(prog.Preds(l))
		for _, k := range prog.Links(l) {
			if k.From < 0 || k.From >= many || k.To < 0 || k.To >= many {
				t.Fatal(l, k)
			}
		}
		if levels, is := prog.Levels(l); is && len(levels) != many || !is && len(levels) != 0 {
			t.Fatal(l, levels, is)
		}
		for _, c := range l {
			if len(c.Head) > 0 {
				prog.Of(l, predOf(c.Head))
			}
		}
	}
}

// answers are what all calls tell of clauses.
type answers struct {
	right  bool
	safe   []bool
	preds  []api.Pred
	of     []int
	links  []api.Link
	levels []int
	are    bool
}

func asked(l []api.Clause) answers {
	a := answers{right: prog.Right(l), preds: prog.Preds(l), of: prog.Of(l, pred("p", 1)), links: prog.Links(l)}
	for _, c := range l {
		a.safe = append(a.safe, prog.Safe(c))
	}
	a.levels, a.are = prog.Levels(l)
	return a
}

func (a answers) same(b answers) bool {
	return a.right == b.right && a.are == b.are && slices.Equal(a.safe, b.safe) && slices.Equal(a.preds, b.preds) &&
		slices.Equal(a.of, b.of) && slices.Equal(a.links, b.links) && slices.Equal(a.levels, b.levels)
}

// spoil writes over all that was told.
func (a answers) spoil() {
	for i := range a.preds {
		a.preds[i] = pred("spoilt", 9)
	}
	for i := range a.of {
		a.of[i] = -9
	}
	for i := range a.links {
		a.links[i] = api.Link{From: -9}
	}
	for i := range a.levels {
		a.levels[i] = -9
	}
}

// P3: what is handed in stays as it is, and tells the same again, whatever becomes of what was told.
func TestUnchanged(t *testing.T) {
	from := seeded(11)
	for range 1500 {
		l := from.program(6)
		was := copied(l)
		first := asked(l)
		asked(l).spoil()
		if !slices.EqualFunc(l, was, sameClause) {
			t.Fatal(l, was)
		}
		if !first.same(asked(l)) || !first.same(asked(was)) {
			t.Fatal(l, first)
		}
	}
}

// P3: calls that run beside each other tell what they tell alone.
func TestBesideEachOther(t *testing.T) {
	l := seeded(12).program(20)
	alone := asked(l)
	same := make(chan bool)
	for range 8 {
		go func() { same <- asked(l).same(alone) }()
	}
	for range 8 {
		if !<-same {
			t.Error("told otherwise")
		}
	}
}

// P3: an empty row and none are the same.
func TestEmpty(t *testing.T) {
	if !asked(nil).same(asked([]api.Clause{})) {
		t.Error("no clauses")
	}
	if c := fun("p", number(1)); !asked([]api.Clause{{Head: c}}).same(asked([]api.Clause{{Head: c, Body: []api.Lit{}}})) {
		t.Error("no body")
	}
	if !asked([]api.Clause{{}}).same(asked([]api.Clause{{Head: []api.Cell{}, Body: []api.Lit{{}}}})) {
		t.Error("no head")
	}
}
