package code_test

import (
	"slices"
	"strconv"
	"testing"

	"sorrel/api"
	"sorrel/code"
)

// In this file code is made a second time, from the chapter's words alone: a new register is looked for in all
// of the code, and a variable's is looked up in a row of those that were met.

// registers are those that stand in an instruction, as J3 names them.
func registers(i api.Instr) []int {
	var l []int
	if slices.Contains([]int{api.GetVar, api.GetVal, api.UniVar, api.UniVal, api.SetVar, api.SetVal}, i.Op) {
		l = append(l, i.X)
	}
	if slices.Contains([]int{api.GetVar, api.GetVal, api.GetInt, api.GetFun, api.PutFun, api.Call}, i.Op) {
		l = append(l, i.A)
	}
	return l
}

// book is code as far as it is written, and the variables that were met, each with its register.
type book struct {
	args int
	code []api.Instr
	vars []int
	regs []int
}

// unused is the least register above all that stand in the code, or are the head's.
func (b *book) unused() int {
	least := b.args
	for _, i := range b.code {
		for _, r := range registers(i) {
			if r >= least {
				least = r + 1
			}
		}
	}
	return least
}

// met is a variable's register, and whether it has one ahead of this.
func (b *book) met(n int) (int, bool) {
	if at := slices.Index(b.vars, n); at >= 0 {
		return b.regs[at], true
	}
	r := b.unused()
	b.vars, b.regs = append(b.vars, n), append(b.regs, r)
	return r, false
}

func (b *book) write(i api.Instr) { b.code = append(b.code, i) }

// end is the place behind a term that begins at a place of a row.
func end(t []api.Cell, at int) int {
	open := 1
	for open > 0 {
		open--
		if t[at].Kind == api.Fun {
			open += t[at].N
		}
		at++
	}
	return at
}

// args are the places at which a Fun's arguments begin.
func args(t []api.Cell, at int) []int {
	var l []int
	next := at + 1
	for range t[at].N {
		l = append(l, next)
		next = end(t, next)
	}
	return l
}

// made is the code of a clause that may be.
func made(c api.Clause) []api.Instr {
	b := &book{args: c.Head[0].N}
	b.head(c.Head)
	for _, x := range c.Body {
		r := b.put(x.T, 0)
		b.write(api.Instr{Op: api.Call, A: r, Neg: x.Neg})
	}
	b.write(api.Instr{Op: api.Proceed, Name: c.Head[0].Name, N: c.Head[0].N})
	return b.code
}

func (b *book) head(t []api.Cell) {
	// Of each one in the row its place in t, and its register.
	var row [][2]int
	for r, at := range args(t, 0) {
		row = append(row, [2]int{at, r})
	}
	for n := 0; n < len(row); n++ {
		at, a := row[n][0], row[n][1]
		switch x := t[at]; x.Kind {
		case api.Var:
			if r, is := b.met(x.N); is {
				b.write(getVal(r, a))
			} else {
				b.write(getVar(r, a))
			}
		case api.Int:
			b.write(getInt(a, x.N))
		default:
			b.write(getFun(a, x.Name, x.N))
			for _, at := range args(t, at) {
				if r := b.uni(t[at]); r >= 0 {
					row = append(row, [2]int{at, r})
				}
			}
		}
	}
}

// uni writes an argument of a Fun of the head; of a Fun it tells its register, else -1.
func (b *book) uni(x api.Cell) int {
	switch x.Kind {
	case api.Int:
		b.write(uniInt(x.N))
	case api.Fun:
		r := b.unused()
		b.write(uniVar(r))
		return r
	default:
		if r, is := b.met(x.N); is {
			b.write(uniVal(r))
		} else {
			b.write(uniVar(r))
		}
	}
	return -1
}

// put writes a Fun's structure, and tells its register.
func (b *book) put(t []api.Cell, at int) int {
	ready := map[int]int{}
	for _, at := range args(t, at) {
		if t[at].Kind == api.Fun {
			ready[at] = b.put(t, at)
		}
	}
	own := b.unused()
	b.write(putFun(own, t[at].Name, t[at].N))
	for _, at := range args(t, at) {
		switch x := t[at]; x.Kind {
		case api.Int:
			b.write(setInt(x.N))
		case api.Fun:
			b.write(setVal(ready[at]))
		default:
			if r, is := b.met(x.N); is {
				b.write(setVal(r))
			} else {
				b.write(setVar(r))
			}
		}
	}
	return own
}

// regs is what J3 says.
func regs(l []api.Instr) int {
	var all []int
	for _, i := range l {
		all = append(all, registers(i)...)
	}
	if len(all) == 0 {
		return 0
	}
	return slices.Max(all) + 1
}

// terms are all terms of so many cells, of a few names, numbers and variables.
func terms(cells int) [][]api.Cell {
	if cells == 1 {
		return [][]api.Cell{variable(0), variable(1), variable(2), number(7), fun("p")}
	}
	var l [][]api.Cell
	for n := 1; n < cells; n++ {
		for _, parts := range tuples(n, cells-1) {
			l = append(l, append([]api.Cell{{Kind: api.Fun, Name: "p", N: n}}, parts...))
		}
	}
	return l
}

// tuples are all rows of so many terms that have so many cells together.
func tuples(many int, cells int) [][]api.Cell {
	if many == 1 {
		return terms(cells)
	}
	var l [][]api.Cell
	for first := 1; first <= cells-many+1; first++ {
		for _, t := range terms(first) {
			for _, rest := range tuples(many-1, cells-first) {
				l = append(l, slices.Concat(t, rest))
			}
		}
	}
	return l
}

// small are all numbered clauses of few cells, with at most two literals.
func small(head int, body int) []api.Clause {
	var heads, bodies [][]api.Cell
	for n := 1; n <= max(head, body); n++ {
		for _, t := range terms(n) {
			if t[0].Kind != api.Fun {
				continue
			}
			if n <= head {
				heads = append(heads, t)
			}
			if n <= body {
				bodies = append(bodies, t)
			}
		}
	}
	var l []api.Clause
	add := func(c api.Clause) {
		if sameClause(c, numbered(c)) {
			l = append(l, copied(c))
		}
	}
	for _, h := range heads {
		add(clause(h))
		for _, b := range bodies {
			add(clause(h, is(b)))
			add(clause(h, not(b)))
			if len(h)+len(b) > 3 {
				continue
			}
			for _, d := range bodies {
				add(clause(h, is(b), not(d)))
				add(clause(h, not(b), is(d)))
			}
		}
	}
	return l
}

// wantMade asks of a clause for the code of the chapter's words, for the clause of it, and for its registers.
func wantMade(t *testing.T, c api.Clause) []api.Instr {
	t.Helper()
	want := made(c)
	wantCode(t, c, want...)
	if n := code.Regs(want); n != regs(want) {
		t.Fatal(c, n, regs(want))
	}
	return want
}

// P10.1: each small clause has the code of the chapter's words. P10.2: no two have one code.
func TestSmallModel(t *testing.T) {
	by := map[string]api.Clause{}
	l := small(4, 4)
	for _, c := range l {
		k := key(wantMade(t, c))
		if other, is := by[k]; is {
			t.Fatal(c, other)
		}
		by[k] = c
	}
	if len(l) < 10000 {
		t.Error("too few to tell:", len(l))
	}
}

// P10.1: seeded clauses have the code of the chapter's words.
func TestSeededModel(t *testing.T) {
	from := seeded(1)
	most := 0
	for range 20000 {
		most = max(most, len(wantMade(t, from.clause(api.MaxBody))))
	}
	if most < 150 {
		t.Error("too short to tell:", most)
	}
}

// P10.1: so do clauses of as many cells, and variables, as there may be.
func TestGreatModel(t *testing.T) {
	from := seeded(2)
	for range 40 {
		vars := []int{1, 7, 200, 1000}[from.IntN(4)]
		c := clause(from.big(1+from.IntN(api.MaxCells), vars))
		for range from.IntN(api.MaxBody + 1) {
			c.Body = append(c.Body, api.Lit{Neg: from.coin(), T: from.big(1+from.IntN(api.MaxCells), vars)})
		}
		wantMade(t, c)
	}
}

// key tells code by letters: no two have the same ones.
func key(l []api.Instr) string {
	var k []byte
	for _, i := range l {
		for _, n := range []int{i.Op, i.X, i.A, i.N} {
			k = append(strconv.AppendInt(k, int64(n), 10), ' ')
		}
		k = append(strconv.AppendBool(strconv.AppendQuote(k, i.Name), i.Neg), ';')
	}
	return string(k)
}

// few are the instructions of which short code is laid: each with few registers and numbers.
func few() []api.Instr {
	var l []api.Instr
	for x := range 6 {
		for a := range 3 {
			l = append(l, getVar(x, a), getVal(x, a))
		}
		l = append(l, uniVar(x), uniVal(x), setVar(x), setVal(x))
	}
	for a := range 4 {
		l = append(l, getInt(a, 7), call(a), callNot(a))
		for n := range 3 {
			l = append(l, getFun(a, "p", n), putFun(a, "p", n))
		}
	}
	return append(l, uniInt(7), setInt(7), api.Instr{})
}

// P10.1, P10.2: of all short code just that has a clause that is made of one: the clauses of which short code is
// made are all there, since none of them has more cells than instructions.
func TestAllShortCode(t *testing.T) {
	by := map[string]api.Clause{}
	for _, c := range small(4, 4) {
		if l := made(c); len(l) <= 4 {
			by[key(l)] = c
		}
	}
	some, told := few(), 0
	ask := func(l []api.Instr) {
		c, is := code.Source(l)
		if !is {
			return
		}
		told++
		if want, may := by[key(l)]; !may || !sameClause(c, want) {
			t.Fatal(l, c)
		}
	}
	for n := range 4 {
		end := proceed("p", n)
		ask([]api.Instr{end})
		for _, i := range some {
			ask([]api.Instr{i, end})
			for _, j := range some {
				ask([]api.Instr{i, j, end})
				for _, k := range some {
					ask([]api.Instr{i, j, k, end})
				}
			}
		}
	}
	if told != len(by) || told < 80 {
		t.Error(told, len(by))
	}
}
