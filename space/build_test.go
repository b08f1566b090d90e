package space_test

import (
	"math/rand/v2"
	"slices"
	"strings"
	"testing"

	"sorrel/api"
	"sorrel/read"
	"sorrel/space"
)

func variable(n int) []api.Cell { return []api.Cell{{Kind: api.Var, N: n}} }

func number(n int) []api.Cell { return []api.Cell{{Kind: api.Int, N: n}} }

func fun(name string, args ...[]api.Cell) []api.Cell {
	return append([]api.Cell{{Kind: api.Fun, Name: name, N: len(args)}}, slices.Concat(args...)...)
}

// nest is a term in as many Funs of one argument.
func nest(times int, t []api.Cell) []api.Cell {
	return append(slices.Repeat([]api.Cell{{Kind: api.Fun, Name: "s", N: 1}}, times), t...)
}

// said is the term that a text says; its variables are numbered.
func said(t *testing.T, s string) []api.Cell {
	t.Helper()
	l, _, at, e := read.Term(s)
	if e != api.OK {
		t.Fatal(s, at, e)
	}
	return l
}

// terms are those of a text, with blanks between.
func terms(t *testing.T, s string) [][]api.Cell {
	t.Helper()
	var l [][]api.Cell
	for _, word := range strings.Fields(s) {
		l = append(l, said(t, word))
	}
	return l
}

// tables are those of a text: "p(A): p(1) p(2); q" are two, of which the second one has no answers.
func tables(t *testing.T, s string) []api.Table {
	t.Helper()
	var l []api.Table
	for _, part := range strings.Split(s, ";") {
		if call, answers, _ := strings.Cut(part, ":"); strings.TrimSpace(call) != "" {
			l = append(l, api.Table{Call: said(t, call), Answers: terms(t, answers)})
		}
	}
	return l
}

// opened are the tables of calls that are opened one behind the other, from none on.
func opened(calls ...[]api.Cell) []api.Table {
	var s []api.Table
	for _, call := range calls {
		s, _ = space.Open(s, call)
	}
	return s
}

func same(a [][]api.Cell, b [][]api.Cell) bool { return slices.EqualFunc(a, b, slices.Equal) }

func sameTables(a []api.Table, b []api.Table) bool {
	return slices.EqualFunc(a, b, func(x api.Table, y api.Table) bool { return slices.Equal(x.Call, y.Call) && same(x.Answers, y.Answers) })
}

// copied is a row that shares nothing with l.
func copied(l [][]api.Cell) [][]api.Cell {
	var to [][]api.Cell
	for _, t := range l {
		to = append(to, slices.Clone(t))
	}
	return to
}

// copiedTables are tables that share nothing with s.
func copiedTables(s []api.Table) []api.Table {
	var to []api.Table
	for _, t := range s {
		to = append(to, api.Table{Call: slices.Clone(t.Call), Answers: copied(t.Answers)})
	}
	return to
}

// source makes terms and tables from a fixed seed.
type source struct{ *rand.Rand }

func seeded(n uint64) source { return source{rand.New(rand.NewPCG(n, 141))} }

func (from source) just(l ...string) string { return l[from.IntN(len(l))] }

func (from source) coin() bool { return from.IntN(2) == 0 }

// argument is a small term; with variables, if there are to be any.
func (from source) argument(deep int, free bool) []api.Cell {
	switch kind := from.IntN(7 + 2*deep); {
	case kind < 4 && free:
		return variable([]int{0, 1, 2, 999}[from.IntN(4)])
	case kind < 5:
		return number(from.IntN(3) - 1)
	case kind < 7 || deep == 0:
		return fun(from.just("a", "b"))
	}
	args := make([][]api.Cell, 1+from.IntN(2))
	for i := range args {
		args[i] = from.argument(deep-1, free)
	}
	return fun(from.just("f", "p"), args...)
}

// call is an atom of one of few predicates.
func (from source) call() []api.Cell {
	args := make([][]api.Cell, from.IntN(4))
	for i := range args {
		args[i] = from.argument(from.IntN(2), true)
	}
	return fun(from.just("p", "q", "B"), args...)
}

// filled is t, in which terms without variables stand for its variables, one for all of the same number.
func (from source) filled(t []api.Cell) []api.Cell {
	stands := map[int][]api.Cell{}
	var to []api.Cell
	for _, c := range t {
		if c.Kind != api.Var {
			to = append(to, c)
			continue
		}
		if _, is := stands[c.N]; !is {
			stands[c.N] = from.argument(from.IntN(2), false)
		}
		to = append(to, stands[c.N]...)
	}
	return to
}

// renamed is t with other names of its variables, unlike ones for unlike ones.
func (from source) renamed(t []api.Cell) []api.Cell {
	names := from.Perm(api.MaxVar + 1)
	to := slices.Clone(t)
	for i, c := range t {
		if c.Kind == api.Var && 0 <= c.N && c.N < len(names) {
			to[i].N = names[c.N]
		}
	}
	return to
}

// tables are up to so many that are right, with up to so many answers each, in no order.
func (from source) tables(many int, answers int) []api.Table {
	var s []api.Table
	for range from.IntN(many + 1) {
		call := numbered(from.call())
		if slices.ContainsFunc(s, func(t api.Table) bool { return slices.Equal(t.Call, call) }) {
			continue
		}
		one := api.Table{Call: call}
		for range from.IntN(answers + 1) {
			if t := from.filled(call); !has(one.Answers, t) {
				one.Answers = append(one.Answers, t)
			}
		}
		s = append(s, one)
	}
	return s
}

// shuffled is l in another order.
func shuffled[T any](from source, l []T) []T {
	to := slices.Clone(l)
	from.Shuffle(len(to), func(i int, j int) { to[i], to[j] = to[j], to[i] })
	return to
}

// asking is a call: often that of a table of s with other variables' names, or all but that.
func (from source) asking(s []api.Table) []api.Cell {
	if len(s) == 0 || from.IntN(3) == 0 {
		return from.call()
	}
	call := s[from.IntN(len(s))].Call
	if len(call) == 0 || from.IntN(4) > 0 {
		return from.renamed(call)
	}
	// Two of its variables may become one, or one a number.
	to := slices.Clone(call)
	if at := from.IntN(len(to)); to[at].Kind == api.Var {
		to[at] = []api.Cell{{Kind: api.Var, N: from.IntN(3)}, {Kind: api.Int, N: 0}}[from.IntN(2)]
	}
	return to
}

// answering is a table's place, or none, and an answer for it, that it often has already.
func (from source) answering(s []api.Table) (int, []api.Cell) {
	n := from.IntN(len(s)+2) - 1
	if n < 0 || n >= len(s) {
		return []int{n, -1 << 63, 1<<63 - 1, 1 << 32}[from.IntN(4)], from.filled(from.call())
	}
	if many := len(s[n].Answers); many > 0 && from.coin() {
		return n, slices.Clone(s[n].Answers[from.IntN(many)])
	}
	return n, from.filled(s[n].Call)
}

// wild is a row of cells, whatever they are.
func (from source) wild() []api.Cell {
	t := make([]api.Cell, from.IntN(5))
	for i := range t {
		t[i] = api.Cell{
			Kind: from.IntN(5),
			Name: from.just("", "", "a", "p", "it's", "\n", "\xff", "thirteenbytes"),
			N:    []int{0, 1, 2, 3, -1, 7, 1000, api.MaxInt + 1, -1 << 63, 1<<63 - 1}[from.IntN(10)],
		}
	}
	return t
}

// bent is t, of which a cell is changed, is missing, or is too many.
func (from source) bent(t []api.Cell) []api.Cell {
	if len(t) == 0 {
		return from.wild()
	}
	to := slices.Clone(t)
	at := from.IntN(len(to))
	switch from.IntN(6) {
	case 0:
		to[at].N += from.IntN(3) - 1
	case 1:
		to[at].Kind = from.IntN(5)
	case 2:
		to[at].Name = from.just("", "a", "it's", "thirteenbytes")
	case 3:
		return to[:len(to)-1]
	case 4:
		return append(to, api.Cell{Kind: api.Int})
	case 5:
		to[at] = api.Cell{Kind: api.Var, N: from.IntN(2)}
	}
	return to
}

// mixed are tables that are right, or some that were made of such by a change or two.
func (from source) mixed() []api.Table {
	s := from.tables(6, 4)
	for len(s) > 0 && from.coin() {
		n, other := from.IntN(len(s)), from.IntN(len(s))
		many := len(s[n].Answers)
		switch from.IntN(8) {
		case 0:
			s[n].Call = from.bent(s[n].Call)
		case 1:
			s[n].Call = from.renamed(s[n].Call)
		case 2:
			s[n].Call = slices.Clone(s[other].Call)
		case 3:
			s = slices.Insert(s, other, api.Table{Call: slices.Clone(s[n].Call)})
		case 4:
			s[n].Answers = slices.Insert(s[n].Answers, from.IntN(many+1), from.bent(s[n].Call))
		case 5:
			s[n].Answers = append(s[n].Answers, from.filled(s[other].Call))
		case 6:
			if many > 0 {
				s[n].Answers = slices.Insert(s[n].Answers, from.IntN(many+1), s[n].Answers[from.IntN(many)])
			}
		case 7:
			s = append(s, api.Table{Call: from.wild(), Answers: [][]api.Cell{from.wild()}})
		}
	}
	return s
}
