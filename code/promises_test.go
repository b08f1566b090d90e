package code_test

import (
	"slices"
	"testing"

	"sorrel/api"
	"sorrel/code"
)

// P10.2: a clause's code leads back to it, but for its variables' names; those of a clause play no part in its code.
func TestBack(t *testing.T) {
	from := seeded(3)
	for range 10000 {
		c := from.clause(api.MaxBody)
		l := compiled(t, c)
		wantSource(t, l, numbered(c))
		by := from.Perm(api.MaxVar + 1)
		other := renamed(c, func(n int) int { return by[n] })
		if !slices.Equal(compiled(t, other), l) || !slices.Equal(compiled(t, numbered(c)), l) {
			t.Fatal(c, other)
		}
	}
}

// P10.2: clauses that differ in more than their variables' names have other code.
func TestOtherCode(t *testing.T) {
	from := seeded(4)
	var count [2]int
	for range 20000 {
		c := from.clause(2)
		other := copied(c)
		for _, row := range rows(other) {
			at := from.IntN(len(row))
			if from.IntN(3) > 0 {
				continue
			}
			switch x := &row[at]; x.Kind {
			case api.Var:
				x.N = from.IntN(4)
			case api.Int:
				x.N++
			default:
				x.Name = from.just("a", "p", x.Name)
			}
		}
		if n := len(other.Body); n > 0 && from.IntN(4) == 0 {
			other.Body[n-1].Neg = from.coin()
		}
		alike := sameClause(numbered(c), numbered(other))
		if slices.Equal(compiled(t, c), compiled(t, other)) != alike {
			t.Fatal(c, other)
		}
		if alike {
			count[1]++
		} else {
			count[0]++
		}
	}
	if min(count[0], count[1]) < 3000 {
		t.Error("too few to tell:", count)
	}
}

// P10.1, P10.2: code that is not quite as it was is that of the clause that Source tells, or of none.
func TestSpoilt(t *testing.T) {
	from := seeded(5)
	var count [2]int
	for range 100000 {
		was := compiled(t, from.clause(3))
		l := from.spoilt(was)
		c, is := code.Source(l)
		if !is {
			count[0]++
			if len(c.Head) > 0 || len(c.Body) > 0 || slices.Equal(l, was) {
				t.Fatal(l, c)
			}
			continue
		}
		if !slices.Equal(l, was) {
			count[1]++
		}
		if !sameClause(c, numbered(c)) || !slices.Equal(compiled(t, c), l) || !slices.Equal(made(c), l) {
			t.Fatal(l, c)
		}
	}
	if count[0] < 10000 || count[1] < 1500 {
		t.Error("too few to tell:", count)
	}
}

// sets and uses are the registers that an instruction sets, and those that it uses.
func sets(i api.Instr) []int {
	switch i.Op {
	case api.GetVar, api.UniVar, api.SetVar:
		return []int{i.X}
	case api.PutFun:
		return []int{i.A}
	}
	return nil
}

func uses(i api.Instr) []int {
	var l []int
	for _, r := range registers(i) {
		if !slices.Contains(sets(i), r) {
			l = append(l, r)
		}
	}
	return l
}

// P10.3: a register is set ahead of where it is used, and once; each up to Regs is.
func TestSetFirst(t *testing.T) {
	from := seeded(6)
	ask := func(c api.Clause) {
		set := map[int]bool{}
		for a := range c.Head[0].N {
			set[a] = true
		}
		l := compiled(t, c)
		for _, i := range l {
			for _, r := range uses(i) {
				if !set[r] {
					t.Fatal(c, l, i)
				}
			}
			for _, r := range sets(i) {
				if set[r] {
					t.Fatal(c, l, i)
				}
				set[r] = true
			}
		}
		many := code.Regs(l)
		for r := range many {
			if !set[r] {
				t.Fatal(c, l, r)
			}
		}
		if len(set) != many {
			t.Fatal(c, l, many)
		}
	}
	for range 10000 {
		ask(from.clause(api.MaxBody))
	}
	for _, c := range small(4, 3) {
		ask(c)
	}
	for range 100 {
		ask(clause(from.big(api.MaxCells, 20), is(from.big(api.MaxCells, 20)), not(from.big(100, 1000))))
	}
}

// instructions are as many as P10.4 says.
func instructions(c api.Clause) int {
	many := 1
	for _, at := range args(c.Head, 0) {
		for n := at; n < end(c.Head, at); n++ {
			many++
			if n > at && c.Head[n].Kind == api.Fun {
				many++
			}
		}
	}
	for _, x := range c.Body {
		// The Call, and in the place of the literal's own Fun, which is no argument, just its PutFun.
		many++
		for n, y := range x.T {
			if n > 0 {
				many++
			}
			if y.Kind == api.Fun {
				many++
			}
		}
	}
	return many
}

// P10.4: a clause has as many instructions as its arguments, in all depths, and one more for each Fun that is neither
// the head nor an argument of it, for each literal, and at the end.
func TestAsMany(t *testing.T) {
	from := seeded(7)
	ask := func(c api.Clause) {
		if l := compiled(t, c); len(l) != instructions(c) {
			t.Fatal(c, l, instructions(c))
		}
	}
	for range 10000 {
		ask(from.clause(api.MaxBody))
	}
	for _, c := range small(4, 3) {
		ask(c)
	}
	for range 100 {
		ask(clause(from.big(api.MaxCells, 20), is(from.big(api.MaxCells, 20)), not(from.big(100, 1000))))
	}
}

// P1: whatever is handed in, the calls end, and none panics.
func TestAnything(t *testing.T) {
	from := seeded(8)
	for range 100000 {
		l := make([]api.Instr, from.IntN(12))
		for i := range l {
			l[i] = from.wild()
		}
		code.Regs(l)
		if c, is := code.Source(l); is != (len(c.Head) > 0) || is && !slices.Equal(compiled(t, c), l) {
			t.Fatal(l, c, is)
		}
	}
	for range 20000 {
		c := from.clause(3)
		for _, row := range rows(c) {
			if x := &row[from.IntN(len(row))]; from.coin() {
				*x = api.Cell{Kind: from.IntN(5), Name: from.just("", "a", "it's", "thirteenbytes"), N: from.extreme()}
			}
		}
		if l, e := code.Compile(c); e != api.OK && e != api.ErrArg || (e == api.OK) != (len(l) > 0) {
			t.Fatal(c, l, e)
		}
	}
}

// P1: code that names its structures again and again, or that leads round, or that is without end nearly, is of no
// clause, and that is told at once.
func TestEndless(t *testing.T) {
	p, one := proceed("p", 0), proceed("p", 1)
	doubled := []api.Instr{putFun(0, "a", 0)}
	for n := range 1000 {
		doubled = append(doubled, putFun(n+1, "f", 2), setVal(n), setVal(n))
	}
	wantNone(t, append(doubled, call(1000), p)...)

	again := []api.Instr{putFun(0, "a", 0)}
	for range 1000 {
		again = append(again, putFun(0, "f", 2), setVal(0), setVal(0))
	}
	wantNone(t, append(again, call(0), p)...)

	wantNone(t, getFun(0, "f", 1), uniVar(0), one)
	wantNone(t, append(slices.Repeat([]api.Instr{getFun(0, "f", 2), uniVar(0), uniVar(0)}, 1000), one)...)
	wantNone(t, append([]api.Instr{getFun(0, "f", 1<<62)}, append(slices.Repeat([]api.Instr{uniVar(1)}, 3000), one)...)...)

	deep := []api.Instr{putFun(0, "a", 0)}
	for n := range 1000000 {
		deep = append(deep, putFun(n+1, "s", 1), setVal(n))
	}
	wantNone(t, append(deep, call(1000000), p)...)

	head := []api.Instr{getFun(0, "s", 1), uniVar(1)}
	for n := range 1000000 {
		head = append(head, getFun(n+1, "s", 1), uniVar(n+2))
	}
	wantNone(t, append(head, one)...)
	wantNone(t, slices.Repeat([]api.Instr{proceed("p", 0)}, 1000000)...)
}

// P3: what is handed in stays as it is, and tells the same again, whatever becomes of what was told.
func TestUnchanged(t *testing.T) {
	from := seeded(9)
	for range 3000 {
		c := from.clause(4)
		was := copied(c)
		l := compiled(t, c)
		kept := slices.Clone(l)
		told, _ := code.Source(l)
		code.Regs(l)
		if !sameClause(c, was) || !slices.Equal(l, kept) {
			t.Fatal(c, was, l, kept)
		}
		// No row of the clause shares memory with another one, or with a later answer's.
		for i, row := range rows(told) {
			others := copied(told)
			row = row[:cap(row)]
			for k := range row {
				row[k] = api.Cell{Kind: -9}
			}
			for k, other := range rows(told) {
				if k != i && !slices.Equal(other, rows(others)[k]) {
					t.Fatal(told, i, k)
				}
			}
		}
		for i := range l {
			l[i] = api.Instr{Op: -9}
		}
		if !slices.Equal(compiled(t, c), kept) || !sameClause(c, was) {
			t.Fatal(c, was)
		}
		wantSource(t, kept, numbered(c))
	}
}

// P3: what stands behind a row, in memory that it has, plays no part, and stays as it is.
func TestBehind(t *testing.T) {
	from := seeded(10)
	for range 1000 {
		c := from.clause(3)
		l := compiled(t, c)
		wide := append(slices.Clone(l), from.wild(), from.wild())
		behind := slices.Clone(wide[len(l):])
		wantSource(t, wide[:len(l)], numbered(c))
		if !slices.Equal(wide[len(l):], behind) {
			t.Fatal(wide, behind)
		}
		row := append(slices.Clone(c.Head), api.Cell{Kind: -9})
		c.Head = row[:len(c.Head)]
		if !slices.Equal(compiled(t, c), l) || row[len(c.Head)].Kind != -9 {
			t.Fatal(c)
		}
	}
}

// P3: calls that run beside each other tell what they tell alone.
func TestBesideEachOther(t *testing.T) {
	c := seeded(11).clause(api.MaxBody)
	l := compiled(t, c)
	same := make(chan bool)
	for range 8 {
		go func() {
			again, e := code.Compile(c)
			back, is := code.Source(l)
			same <- e == api.OK && is && slices.Equal(again, l) && sameClause(back, numbered(c))
		}()
	}
	for range 8 {
		if !<-same {
			t.Error("told otherwise")
		}
	}
}

// P3: an empty row and none are the same.
func TestEmpty(t *testing.T) {
	wantErrArg(t, api.Clause{})
	wantErrArg(t, api.Clause{Head: []api.Cell{}, Body: []api.Lit{}})
	wantNone(t, []api.Instr{}...)
	wantCode(t, api.Clause{Head: fun("a"), Body: []api.Lit{}}, proceed("a", 0))
	if code.Regs(nil) != 0 || code.Regs([]api.Instr{}) != 0 {
		t.Error("registers of nothing")
	}
}
