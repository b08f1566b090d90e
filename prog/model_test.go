package prog_test

import (
	"slices"
	"sort"
	"testing"

	"sorrel/api"
	"sorrel/prog"
)

// In this file what the chapter words is found a second time, from its words alone.

// holds says whether a row has a variable.
func holds(t []api.Cell, n int) bool {
	return slices.Contains(t, api.Cell{Kind: api.Var, N: n})
}

// safe is what G1 says of a clause that may be.
func safe(c api.Clause) bool {
	for n := range api.MaxVar + 1 {
		first := len(c.Body)
		for i := len(c.Body) - 1; i >= 0; i-- {
			if !c.Body[i].Neg && holds(c.Body[i].T, n) {
				first = i
			}
		}
		for i := range first {
			if c.Body[i].Neg && holds(c.Body[i].T, n) {
				return false
			}
		}
		if first == len(c.Body) && holds(c.Head, n) {
			return false
		}
	}
	return true
}

func predOf(t []api.Cell) api.Pred { return api.Pred{Name: t[0].Name, N: t[0].N} }

// preds is what G2 says of clauses that may be.
func preds(l []api.Clause) []api.Pred {
	met := map[api.Pred]bool{}
	for _, c := range l {
		met[predOf(c.Head)] = true
		for _, x := range c.Body {
			met[predOf(x.T)] = true
		}
	}
	var all []api.Pred
	for p := range met {
		all = append(all, p)
	}
	sort.Slice(all, func(i int, j int) bool {
		return all[i].Name < all[j].Name || all[i].Name == all[j].Name && all[i].N < all[j].N
	})
	return all
}

// links is what G3 says: all that there could be are gone through, in order, and those are kept that there are.
func links(l []api.Clause) []api.Link {
	type link struct {
		from, to api.Pred
		neg      bool
	}
	met := map[link]bool{}
	for _, c := range l {
		for _, x := range c.Body {
			met[link{predOf(c.Head), predOf(x.T), x.Neg}] = true
		}
	}
	var all []api.Link
	for i, from := range preds(l) {
		for j, to := range preds(l) {
			for _, neg := range []bool{false, true} {
				if met[link{from, to, neg}] {
					all = append(all, api.Link{From: i, To: j, Neg: neg})
				}
			}
		}
	}
	return all
}

// reaching is, of any two places, whether links lead from one to the other; each leads to itself.
func reaching(n int, links []api.Link) [][]bool {
	to := make([][]bool, n)
	for i := range to {
		to[i] = make([]bool, n)
		to[i][i] = true
	}
	for _, k := range links {
		to[k.From][k.To] = true
	}
	for mid := range n {
		for i := range n {
			for j := range n {
				to[i][j] = to[i][j] || to[i][mid] && to[mid][j]
			}
		}
	}
	return to
}

// round says whether a predicate leads back to itself through a negation.
func round(n int, links []api.Link) bool {
	to := reaching(n, links)
	return slices.ContainsFunc(links, func(k api.Link) bool { return k.Neg && to[k.To][k.From] })
}

// levelled are the levels of links of which none goes round: one more than the greatest of those whose negation is leant on.
func levelled(n int, links []api.Link) []int {
	to, found := reaching(n, links), make([]int, n)
	for i := range found {
		found[i] = -1
	}
	var level func(i int) int
	level = func(i int) int {
		if found[i] < 0 {
			most := 0
			for _, k := range links {
				if k.Neg && to[i][k.From] {
					most = max(most, level(k.To)+1)
				}
			}
			found[i] = most
		}
		return found[i]
	}
	for i := range n {
		level(i)
	}
	return found
}

// keeps says whether levels are as G4 asks, but for their being low.
func keeps(levels []int, links []api.Link) bool {
	for _, k := range links {
		if levels[k.From] < levels[k.To] || k.Neg && levels[k.From] == levels[k.To] {
			return false
		}
	}
	return true
}

// P7.1: clauses are safe as the chapter's words tell.
func TestSafeModel(t *testing.T) {
	from := seeded(1)
	var count [2]int
	for range 20000 {
		c := from.clause()
		want := safe(c)
		if prog.Safe(c) != want || prog.Right([]api.Clause{c}) != want {
			t.Fatal(c, want)
		}
		if len(c.Body) < 2 {
			continue
		}
		if want {
			count[1]++
		} else {
			count[0]++
		}
	}
	if min(count[0], count[1]) < 1000 {
		t.Error("too few to tell:", count)
	}
}

// P7.1: clauses that may not be are not safe: one row of a safe one is another one.
func TestMayModel(t *testing.T) {
	from := seeded(2)
	told := 0
	for told < 2000 {
		c := from.clause()
		if !safe(c) {
			continue
		}
		told++
		other := copied([]api.Clause{c})[0]
		bad := [][]api.Cell{nil, {}, number(1), {{}}, fun("p")[:0], fun("p", nil), fun("thirteenbytes"), fun(""), fun("it's"), append(fun("p"), fun("q")...), nest(api.MaxCells, number(1)), fun("p", number(api.MaxInt+1)), fun("p", variable(-1))}
		row := bad[from.IntN(len(bad))]
		if at := from.IntN(len(c.Body) + 1); at == len(c.Body) {
			other.Head = row
		} else {
			other.Body[at].T = row
		}
		if !prog.Safe(c) || prog.Safe(other) || prog.Right([]api.Clause{c, other, c}) {
			t.Fatal(c, other)
		}
	}
}

// P7.1: predicates, their clauses, and links are those of the chapter's words.
func TestPartsModel(t *testing.T) {
	from := seeded(3)
	for range 1500 {
		l := from.program(12)
		wanted := preds(l)
		if got := prog.Preds(l); !slices.Equal(got, wanted) {
			t.Fatal(l, got, wanted)
		}
		for _, p := range append(wanted, pred("p", 1), pred("none")) {
			var places []int
			for i, c := range l {
				if predOf(c.Head) == p {
					places = append(places, i)
				}
			}
			if got := prog.Of(l, p); !slices.Equal(got, places) {
				t.Fatal(l, p, got, places)
			}
		}
		if got := prog.Links(l); !slices.Equal(got, links(l)) {
			t.Fatal(l, got, links(l))
		}
	}
}

// P7.1, P7.4: levels are those of the chapter's words, and there are some just if no predicate leads back to itself through a negation.
func TestLevelsModel(t *testing.T) {
	from := seeded(4)
	var count [2]int
	high := 0
	for range 4000 {
		n := 1 + from.IntN(14)
		l := from.leaning(n, from.IntN(2*n+1))
		many, k := len(preds(l)), links(l)
		if round(many, k) {
			count[0]++
			wantNoLevels(t, l)
			continue
		}
		count[1]++
		wanted := levelled(many, k)
		wantLevels(t, l, wanted...)
		if len(wanted) > 0 {
			high = max(high, slices.Max(wanted))
		}
	}
	if min(count[0], count[1]) < 500 || high < 4 {
		t.Error("too few to tell:", count, high)
	}
}

// P7.1, P7.4: of each way in which three predicates may lean on each other the levels are the least ones of all that keep the links.
func TestLevelsOfThree(t *testing.T) {
	for way := range 19683 {
		var l []api.Clause
		for place, rest := 0, way; place < 9; place, rest = place+1, rest/3 {
			if rest%3 > 0 {
				l = append(l, leans(place/3, place%3, rest%3 == 2))
			}
		}
		// Each is a predicate, whatever it leans on.
		l = append(l, clause(fun(named(0))), clause(fun(named(1))), clause(fun(named(2))))
		var least []int
		for n := range 27 {
			levels := []int{n / 9, n / 3 % 3, n % 3}
			if !keeps(levels, links(l)) {
				continue
			}
			if least == nil {
				least = levels
			}
			for i := range least {
				least[i] = min(least[i], levels[i])
			}
		}
		if least == nil {
			wantNoLevels(t, l)
		} else {
			wantLevels(t, l, least...)
		}
	}
}
