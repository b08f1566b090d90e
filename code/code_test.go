package code_test

import (
	"slices"
	"strings"
	"testing"

	"sorrel/api"
	"sorrel/code"
)

// P10.1: the chapter's examples.
func TestExamples(t *testing.T) {
	x := variable(0)
	wantCode(t, clause(fun("a")), proceed("a", 0))
	wantCode(t, clause(fun("p", x, fun("f", x))), getVar(2, 0), getFun(1, "f", 1), uniVal(2), proceed("p", 2))
	wantCode(t, clause(fun("p"), not(fun("q", fun("g", number(1))))), putFun(0, "g", 1), setInt(1), putFun(1, "q", 1), setVal(0), callNot(1), proceed("p", 0))
}

// P10.1: each row of the head's table.
func TestHead(t *testing.T) {
	x, y := variable(4), variable(2)
	wantCode(t, clause(fun("p", x)), getVar(1, 0), proceed("p", 1))
	wantCode(t, clause(fun("p", x, y, x)), getVar(3, 0), getVar(4, 1), getVal(3, 2), proceed("p", 3))
	wantCode(t, clause(fun("p", number(-7), number(0))), getInt(0, -7), getInt(1, 0), proceed("p", 2))
	wantCode(t, clause(fun("p", fun("a"))), getFun(0, "a", 0), proceed("p", 1))
	wantCode(t, clause(fun("p", fun("f", x, y, x, number(3), fun("b")))),
		getFun(0, "f", 5), uniVar(1), uniVar(2), uniVal(1), uniInt(3), uniVar(3), getFun(3, "b", 0), proceed("p", 1))
	// A Fun stands at the row's end: behind the head's arguments, and behind those that stand there by then.
	wantCode(t, clause(fun("p", fun("f", fun("g", fun("h", x)), fun("a")), y, fun("k", y, fun("b")))),
		getFun(0, "f", 2), uniVar(3), uniVar(4),
		getVar(5, 1),
		getFun(2, "k", 2), uniVal(5), uniVar(6),
		getFun(3, "g", 1), uniVar(7),
		getFun(4, "a", 0),
		getFun(6, "b", 0),
		getFun(7, "h", 1), uniVar(8),
		proceed("p", 3))
	// A variable is met first where the code has it first, though it stands elsewhere ahead of that.
	wantCode(t, clause(fun("p", fun("f", fun("g", x)), x)), getFun(0, "f", 1), uniVar(2), getVar(3, 1), getFun(2, "g", 1), uniVal(3), proceed("p", 2))
}

// P10.1: each way in which a structure's argument is laid, and literals one after the other.
func TestLiterals(t *testing.T) {
	x, y := variable(0), variable(9)
	wantCode(t, clause(fun("p"), is(fun("q"))), putFun(0, "q", 0), call(0), proceed("p", 0))
	wantCode(t, clause(fun("p"), not(fun("q")), is(fun("q")), not(fun("q"))),
		putFun(0, "q", 0), callNot(0), putFun(1, "q", 0), call(1), putFun(2, "q", 0), callNot(2), proceed("p", 0))
	wantCode(t, clause(fun("p", x), is(fun("q", x, y, y, number(-2), fun("a")))),
		getVar(1, 0),
		putFun(2, "a", 0), putFun(3, "q", 5), setVal(1), setVar(4), setVal(4), setInt(-2), setVal(2), call(3),
		proceed("p", 1))
	// What the first literal meets is met, for the second one.
	wantCode(t, clause(fun("p"), is(fun("q", y)), not(fun("r", y, x))),
		putFun(0, "q", 1), setVar(1), call(0), putFun(2, "r", 2), setVal(1), setVar(3), callNot(2), proceed("p", 0))
	// Funs within a Fun come ahead of it, each with those within it ahead of that; so a variable is met in them first.
	wantCode(t, clause(fun("p"), is(fun("q", x, fun("f", fun("g", x), y), fun("h", y)))),
		putFun(0, "g", 1), setVar(1),
		putFun(2, "f", 2), setVal(0), setVar(3),
		putFun(4, "h", 1), setVal(3),
		putFun(5, "q", 3), setVal(1), setVal(2), setVal(4),
		call(5), proceed("p", 0))
}

// P10.1: variables are numbered by where they stand, not by where the code meets them.
func TestNumbered(t *testing.T) {
	x, y, z := variable(0), variable(1), variable(2)
	l := []api.Instr{
		getFun(0, "f", 1), uniVar(2), getVar(3, 1), getFun(2, "g", 1), uniVar(4),
		putFun(5, "h", 1), setVar(6), putFun(7, "q", 3), setVar(8), setVal(5), setVal(3), call(7),
		proceed("p", 2),
	}
	// In the code y is met ahead of x, and variable(3) ahead of z.
	wantSource(t, l, clause(fun("p", fun("f", fun("g", x)), y), is(fun("q", z, fun("h", variable(3)), y))))
	wantCode(t, clause(fun("p", fun("f", fun("g", variable(999))), variable(998)), is(fun("q", variable(7), fun("h", variable(0)), variable(998)))), l...)
}

// P10.1: the edges of what may be.
func TestEdges(t *testing.T) {
	for _, n := range []int{api.MaxInt, -api.MaxInt, 0} {
		wantCode(t, clause(fun("p", number(n), fun("f", number(n))), is(fun("q", number(n)))),
			getInt(0, n), getFun(1, "f", 1), uniInt(n), putFun(2, "q", 1), setInt(n), call(2), proceed("p", 2))
	}
	long := strings.Repeat(" ", api.MaxName)
	wantCode(t, clause(fun(long, fun("~")), not(fun(long))), getFun(0, "~", 0), putFun(1, long, 0), callNot(1), proceed(long, 1))
	six := slices.Repeat([][]api.Cell{variable(api.MaxVar)}, api.MaxArity)
	wantCode(t, clause(fun("p", six...), is(fun("q", six...))),
		getVar(6, 0), getVal(6, 1), getVal(6, 2), getVal(6, 3), getVal(6, 4), getVal(6, 5),
		putFun(7, "q", 6), setVal(6), setVal(6), setVal(6), setVal(6), setVal(6), setVal(6), call(7), proceed("p", 6))
	var l []api.Instr
	for n := range api.MaxBody {
		l = append(l, putFun(n, "q", 0), call(n))
	}
	wantCode(t, clause(fun("p"), slices.Repeat([]api.Lit{is(fun("q"))}, api.MaxBody)...), append(l, proceed("p", 0))...)
}

// P10.1: as deep as may be, in the head and in each literal: the longest code of all.
func TestDeepest(t *testing.T) {
	deep := nest(api.MaxCells-1, fun("a"))
	c := clause(deep, slices.Repeat([]api.Lit{not(deep)}, api.MaxBody)...)
	l := wantMade(t, c)
	if len(l) != 199+198+8*400+1 {
		t.Error(len(l))
	}
	// One register more than the head's argument and the Funs within it, and one for each Fun of each literal.
	if n := code.Regs(l); n != 199+8*200 {
		t.Error(n)
	}
	for _, i := range []api.Instr{{}, l[0], proceed("s", 1), call(0)} {
		wantNone(t, append(slices.Clone(l), i)...)
		wantNone(t, slices.Insert(slices.Clone(l), len(l)-1, i)...)
	}
}

// grid is a Fun of five Funs of five variables each, from one on.
func grid(first int) []api.Cell {
	rows := make([][]api.Cell, 5)
	for i := range rows {
		row := make([][]api.Cell, 5)
		for k := range row {
			row[k] = variable(first + 5*i + k)
		}
		rows[i] = fun("f", row...)
	}
	return fun("g", rows...)
}

// P10.1: a clause has as many variables as there are numbers, and no more.
func TestManyVariables(t *testing.T) {
	c := clause(fun("p"))
	for i := range 8 {
		n := 125 * i
		c.Body = append(c.Body, is(fun("q", grid(n), grid(n+25), grid(n+50), grid(n+75), grid(n+100))))
	}
	l := wantMade(t, c)
	last := len(l) - 1
	many := 0
	for _, i := range l {
		if i.Op == api.SetVar {
			many++
		}
	}
	if many != api.MaxVar+1 {
		t.Fatal(many)
	}
	// One variable more, as a sixth argument of the last literal: code as Compile lays it, but of no clause.
	call, args := l[last-1], l[last-6:last-1]
	put := l[last-7]
	if put.Op != api.PutFun || put.N != 5 || call.Op != api.Call {
		t.Fatal(put, call)
	}
	put.N = 6
	more := slices.Concat(l[:last-7], []api.Instr{put}, args, []api.Instr{setVar(put.A + 1), call, l[last]})
	wantNone(t, more...)
	// With a variable that was met there is a clause.
	c.Body[7].T[0].N, c.Body[7].T = 6, append(c.Body[7].T, variable(0)...)
	more[len(more)-3] = setVal(l[slices.IndexFunc(l, func(i api.Instr) bool { return i.Op == api.SetVar })].X)
	wantSource(t, more, c)
}

// P10.1: what may not be is no clause of code.
func TestErrArg(t *testing.T) {
	bad := [][]api.Cell{
		nil, {}, number(1), variable(1), {{}}, {{Kind: 4, Name: "p"}}, fun("p")[:0], fun("p", nil), fun(""), fun("thirteenbytes"), fun("it's"), fun("\n"), fun("\x7f"),
		append(fun("p"), fun("q")...), append(fun("p", number(1)), number(1)...), nest(api.MaxCells, number(1)), {{Kind: api.Fun, Name: "p", N: -1}},
		fun("p", number(api.MaxInt+1)), fun("p", number(-api.MaxInt-1)), fun("p", variable(-1)), fun("p", variable(api.MaxVar+1)),
		fun("p", []api.Cell{{Kind: api.Var, Name: "X"}}), fun("p", []api.Cell{{Kind: api.Int, Name: "x"}}), fun("p", slices.Repeat([][]api.Cell{number(1)}, api.MaxArity+1)...),
	}
	good := fun("p", variable(1), fun("f", number(1)))
	for _, row := range bad {
		wantErrArg(t, clause(row))
		wantErrArg(t, clause(row, is(good)))
		wantErrArg(t, clause(good, is(row)))
		wantErrArg(t, clause(good, not(row), is(good)))
		wantErrArg(t, clause(good, append(slices.Repeat([]api.Lit{is(good)}, api.MaxBody-1), not(row))...))
		wantErrArg(t, clause(good, append(slices.Repeat([]api.Lit{is(good)}, api.MaxBody), is(row))...))
	}
	wantErrArg(t, clause(good, slices.Repeat([]api.Lit{is(good)}, api.MaxBody+1)...))
	wantErrArg(t, clause(good, slices.Repeat([]api.Lit{is(good)}, 5000)...))
}

// P10.1: clauses may be that are not safe.
func TestNotSafe(t *testing.T) {
	wantCode(t, clause(fun("p", variable(0)), not(fun("q", variable(1)))), getVar(1, 0), putFun(2, "q", 1), setVar(3), callNot(2), proceed("p", 1))
}

// P10.1: there is no clause of code that is nearly that of one.
func TestNoSource(t *testing.T) {
	wantNone(t)
	wantNone(t, api.Instr{})
	for _, end := range []api.Instr{
		{Op: api.Proceed}, {Op: api.Proceed, N: 1}, proceed("thirteenbytes", 0), proceed("it's", 0), proceed("p", 1), proceed("p", -1), proceed("p", 7), proceed("p", 1<<62), proceed("p", -1<<63),
		{Op: api.Proceed, Name: "p", X: 1}, {Op: api.Proceed, Name: "p", A: 1}, {Op: api.Proceed, Name: "p", Neg: true}, {Op: api.Call, Name: "p"}, {Op: 14, Name: "p"},
	} {
		wantNone(t, end)
	}
	p := proceed("p", 0)
	wantNone(t, p, p)
	wantNone(t, putFun(0, "q", 0), p)
	wantNone(t, call(0), p)
	wantNone(t, putFun(0, "q", 0), call(0))
	wantNone(t, putFun(0, "q", 0), call(0), call(0), p)
	wantNone(t, putFun(0, "q", 0), call(1), p)
	wantNone(t, putFun(1, "q", 0), call(1), p)
	wantNone(t, putFun(0, "q", 0), p, call(0), p)
	wantNone(t, putFun(0, "a", 0), putFun(1, "q", 0), call(1), p)
	wantNone(t, putFun(0, "a", 0), putFun(0, "q", 0), call(0), p)
	wantNone(t, putFun(0, "q", 1), setVar(1), setVar(2), call(0), p)
	wantNone(t, putFun(0, "q", 2), setVar(1), call(0), p)
	wantNone(t, putFun(0, "q", -1), call(0), p)
	wantNone(t, putFun(0, "q", 1<<62), call(0), p)
	wantNone(t, putFun(0, "q", 1), setVal(1), call(0), p)
	wantNone(t, putFun(0, "q", 1), setVal(0), call(0), p)
	wantNone(t, putFun(0, "q", 1), setVar(0), call(0), p)
	wantNone(t, putFun(0, "q", 1), uniVar(1), call(0), p)
	wantNone(t, putFun(0, "q", 1), setInt(api.MaxInt+1), call(0), p)
	wantNone(t, putFun(0, "a", 0), putFun(1, "q", 2), setVal(0), setVal(0), call(1), p)
	wantNone(t, putFun(0, "q", 0), call(0), putFun(1, "r", 1), setVal(0), call(1), p)
	wantNone(t, setVar(0), p)
	wantNone(t, getVar(0, 0), p)
	wantNone(t, slices.Repeat([]api.Instr{putFun(0, "q", 0), call(0)}, 2)...)
	// A literal ahead of the head's end, and of one more argument.
	wantNone(t, putFun(2, "q", 0), call(2), getVar(1, 0), proceed("p", 1))
	wantNone(t, getVar(2, 0), putFun(3, "q", 0), call(3), getVar(4, 1), proceed("p", 2))
}

// P10.1: nor of a head whose registers, fields or operations are others.
func TestNoSourceOfHead(t *testing.T) {
	one, two := proceed("p", 1), proceed("p", 2)
	wantSource(t, []api.Instr{getVar(1, 0), one}, clause(fun("p", variable(0))))
	wantNone(t, getVal(1, 0), one)
	wantNone(t, getVar(0, 0), one)
	wantNone(t, getVar(2, 0), one)
	wantNone(t, getVar(1, 1), one)
	wantNone(t, getVar(-1, 0), one)
	wantNone(t, getVar(1, 0), getVar(2, 1), one)
	wantNone(t, getVar(2, 0), two)
	wantNone(t, getVar(2, 1), getVar(3, 0), two)
	wantNone(t, getVar(2, 0), getVar(2, 1), two)
	wantNone(t, getVar(2, 0), getVal(3, 1), two)
	wantNone(t, getVar(2, 0), getVal(0, 1), two)
	wantNone(t, getInt(0, api.MaxInt+1), one)
	wantNone(t, api.Instr{Op: api.GetInt, Name: "a"}, one)
	wantNone(t, api.Instr{Op: api.GetInt, X: 1}, one)
	wantNone(t, api.Instr{Op: api.GetVar, X: 1, Neg: true}, one)
	wantNone(t, api.Instr{Op: api.GetVar, X: 1, N: 1}, one)
	wantNone(t, getFun(0, "", 0), one)
	wantNone(t, getFun(0, "f", 1), one)
	wantNone(t, getFun(0, "f", -1), one)
	wantNone(t, getFun(0, "f", 1<<62), one)
	wantNone(t, getFun(0, "f", 1), uniVar(0), one)
	wantNone(t, getFun(0, "f", 1), uniVal(1), one)
	wantNone(t, getFun(0, "f", 1), setVar(1), one)
	wantNone(t, getFun(0, "f", 1), uniVar(1), uniVar(2), one)
	wantNone(t, getFun(0, "f", 1), getFun(1, "a", 0), one)
	wantNone(t, getFun(0, "f", 1), uniVar(1), getFun(2, "a", 0), one)
	wantNone(t, getFun(0, "f", 1), uniVar(1), getVar(2, 1), one)
	wantNone(t, getFun(0, "f", 1), uniVar(1), getInt(1, 3), one)
	wantNone(t, getFun(0, "f", 2), uniVar(1), uniVar(2), getFun(2, "b", 0), getFun(1, "a", 0), one)
	wantNone(t, getFun(0, "f", 2), uniVar(1), uniVar(1), getFun(1, "b", 0), getFun(1, "a", 0), one)
	wantNone(t, getFun(0, "f", 1), uniVar(2), getFun(2, "g", 1), uniVar(4), getVar(3, 1), two)
}

// P10.1: Regs goes by the fields in which an operation has a register, of any instructions.
func TestRegs(t *testing.T) {
	inX := map[int]bool{api.GetVar: true, api.GetVal: true, api.UniVar: true, api.UniVal: true, api.SetVar: true, api.SetVal: true}
	inA := map[int]bool{api.GetVar: true, api.GetVal: true, api.GetInt: true, api.GetFun: true, api.PutFun: true, api.Call: true}
	want := func(n int, l ...api.Instr) {
		t.Helper()
		if got := code.Regs(l); got != n {
			t.Error(l, got, n)
		}
	}
	want(0)
	for op := -2; op < 20; op++ {
		x, a := 0, 0
		if inX[op] {
			x = 1
		}
		if inA[op] {
			a = 1
		}
		want(max(x*51, a*3), api.Instr{Op: op, X: 50, A: 2, N: 900})
		want(max(x*3, a*51), api.Instr{Op: op, X: 2, A: 50, N: 900, Neg: true, Name: "p"})
		want(max(x, a), api.Instr{Op: op})
		want(0, api.Instr{Op: op, X: -1, A: -7})
		want(8, setVar(7), api.Instr{Op: op, X: 3, A: 4}, getInt(0, 99))
		want(max(8, x*10, a*9), api.Instr{Op: op, X: 9, A: 8}, call(7))
	}
	want(0, proceed("p", 6), uniInt(4), setInt(5))
	want(api.MaxInt, getVar(0, api.MaxInt-1), uniVar(1))
}
