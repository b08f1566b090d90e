package read_test

import (
	"strconv"
	"strings"
	"testing"

	"sorrel/api"
	"sorrel/read"
)

// a, b and c are names without arguments.
func a() []api.Cell { return fun("a") }

func b() []api.Cell { return fun("b") }

func c() []api.Cell { return fun("c") }

// P5.1: the chapter's examples.
func TestExamples(t *testing.T) {
	want(t, "1 - 2 - 3", fun("-", fun("-", number(1), number(2)), number(3)))
	want(t, "- 2", fun("-", number(2)))
	want(t, "-2", number(-2))
	want(t, "[X, b | X]", fun(".", variable(0), fun(".", b(), variable(0))), "X")
	wrongBoth(t, "a = b = c", 6, api.ErrRank)
	wantProgram(t, `p(X) :- \+ q(X, _).`, clause(fun("p", variable(0)), not(fun("q", variable(0), variable(1)))))
	wrongBoth(t, "f(a", 3, api.ErrEnd)
}

// P5.1: a number is an Int; a sign is its own only if it stands directly ahead of it.
func TestNumbers(t *testing.T) {
	for s, n := range map[string]int{"0": 0, "7": 7, "007": 7, "2147483647": api.MaxInt, "-0": 0, "-1": -1, "-007": -7, "-2147483647": -api.MaxInt, " -5 . ": -5, "(5)": 5, "(-5)": -5} {
		want(t, s, number(n))
	}
	for _, s := range []string{"- 5", "-\n5", "-%\n5", "-(5)", "- (5)", "-((5))"} {
		want(t, s, fun("-", number(5)))
	}
	want(t, "- -5", fun("-", number(-5)))
	want(t, "- - 5", fun("-", fun("-", number(5))))
	want(t, "-(-5)", fun("-", number(-5)))
	want(t, "f(-5, - 5)", fun("f", number(-5), fun("-", number(5))))
	want(t, "[-5|-6]", fun(".", number(-5), number(-6)))
	want(t, "-5*2", fun("*", number(-5), number(2)))
	// Behind a term a sign stands between two.
	for _, s := range []string{"a-5", "a -5", "a- 5", "a - 5", "a -\n5", "(a)-5"} {
		want(t, s, fun("-", a(), number(5)))
	}
	for _, s := range []string{"3- -5", "3 - -5", "3-(-5)"} {
		want(t, s, fun("-", number(3), number(-5)))
	}
	want(t, "3 - - 5", fun("-", number(3), fun("-", number(5))))
	wrong(t, "2147483648", 0, api.ErrBig)
	wrong(t, "-2147483648", 1, api.ErrBig)
	// Signs that stand together are one token, and no operator.
	wrong(t, "--5", 0, api.ErrToken)
	wrong(t, "3--5", 1, api.ErrToken)
	wrong(t, "3*-5", 1, api.ErrToken)
	wrong(t, "+5", 0, api.ErrToken)
	wrong(t, "5 6", 2, api.ErrToken)
	wrong(t, "5(a)", 1, api.ErrToken)
}

// P5.1, P5.2: the same letters are the same variable, but each _ is a new one; they are numbered as they first come.
func TestVariables(t *testing.T) {
	want(t, "X", variable(0), "X")
	want(t, "_", variable(0), "_")
	want(t, "_x", variable(0), "_x")
	want(t, "a", a())
	want(t, "f(B, A, B)", fun("f", variable(0), variable(1), variable(0)), "B", "A")
	want(t, "f(_, _, _)", fun("f", variable(0), variable(1), variable(2)), "_", "_", "_")
	want(t, "f(_, B, _, B, _x, _x)", fun("f", variable(0), variable(1), variable(2), variable(1), variable(3), variable(3)), "_", "B", "_", "_x")
	want(t, "f(__, __, _)", fun("f", variable(0), variable(0), variable(1)), "__", "_")
	want(t, "X = f(Y) - [X, Z|Y]", fun("=", variable(0), fun("-", fun("f", variable(1)), list(variable(1), variable(0), variable(2)))), "X", "Y", "Z")
	want(t, "x(X, 'X')", fun("x", variable(0), fun("X")), "X")
	long := strings.Repeat("X", 5000)
	want(t, "f("+long+","+long+"Y,"+long+")", fun("f", variable(0), variable(1), variable(0)), long, long+"Y")
	wrong(t, "X(a)", 1, api.ErrToken)
	wrong(t, "_(a)", 1, api.ErrToken)
	wrong(t, "X Y", 2, api.ErrToken)
}

// P5.1: a name is a Fun of what stands in parentheses behind it, or without arguments.
func TestNames(t *testing.T) {
	for _, s := range []string{"a", "'a'", "a.", "(a)", "((a))", "(a).", " a . % remark", "\ta%\n", "%\n'a'.%"} {
		want(t, s, a())
	}
	for _, s := range []string{"f(a)", "f (a)", "f\n(\na\n)\n", "f%(b)\n(a)", "'f'(a)", "f((a))", "(f(a))"} {
		want(t, s, fun("f", a()))
	}
	want(t, "f(a, b,c)", fun("f", a(), b(), c()))
	want(t, "f(a = b, - c, [a])", fun("f", fun("=", a(), b()), fun("-", c()), list(fun("[]"), a())))
	want(t, "f(g(a), h(b, X), 1)", fun("f", fun("g", a()), fun("h", b(), variable(0)), number(1)), "X")
	want(t, "twelve_bytes('it is twelve')", fun("twelve_bytes", fun("it is twelve")))
	wrong(t, "f()", 2, api.ErrToken)
	wrong(t, "f(,a)", 2, api.ErrToken)
	wrong(t, "f(a,)", 4, api.ErrToken)
	wrong(t, "f(a,,b)", 4, api.ErrToken)
	wrong(t, "f(a b)", 4, api.ErrToken)
	wrong(t, "f(a|b)", 3, api.ErrToken)
	wrong(t, "f(a]", 3, api.ErrToken)
	wrong(t, "f(a)(b)", 4, api.ErrToken)
	wrong(t, "f(a))", 4, api.ErrToken)
	wrong(t, "(f)(a)", 3, api.ErrToken)
	wrong(t, "(a, b)", 2, api.ErrToken)
	wrong(t, "()", 1, api.ErrToken)
	wrong(t, "a b", 2, api.ErrToken)
}

// P5.1: a quoted name is never an operator, nor another sign.
func TestQuoted(t *testing.T) {
	want(t, "'='", fun("="))
	want(t, "'-'", fun("-"))
	want(t, "'-'(1)", fun("-", number(1)))
	want(t, "'+'(1, 2)", fun("+", number(1), number(2)))
	want(t, "'=' = '-'", fun("=", fun("="), fun("-")))
	want(t, "- '-'", fun("-", fun("-")))
	want(t, "-'1'", fun("-", fun("1")))
	want(t, "'-1'", fun("-1"))
	want(t, "'[]'", fun("[]"))
	want(t, "'[]'(a)", fun("[]", a()))
	want(t, "'.'(a, '[]')", fun(".", a(), fun("[]")))
	want(t, "'('", fun("("))
	want(t, "'.'", fun("."))
	wrong(t, "a '=' b", 2, api.ErrToken)
	wrong(t, "'-' 1", 4, api.ErrToken)
	wrong(t, "'-'1", 3, api.ErrToken)
	wrong(t, "f'('a)", 1, api.ErrToken)
	wrong(t, "f(a ',' b)", 4, api.ErrToken)
	wrong(t, "f(a ')'", 4, api.ErrToken)
	wrong(t, "[a '|' b]", 3, api.ErrToken)
	wrong(t, "a '.'", 2, api.ErrToken)
	wrongProgram(t, "p ':-' q.", 2, api.ErrToken)
	wrongProgram(t, `p :- '\+' q.`, 10, api.ErrToken)
	wantProgram(t, `p :- '\+'(q).`, clause(fun("p"), is(fun(`\+`, fun("q")))))
}

// P5.1, P5.4: lists are their Funs.
func TestLists(t *testing.T) {
	none := fun("[]")
	want(t, "[]", none)
	want(t, "[ ]", none)
	want(t, "[a]", list(none, a()))
	want(t, "[a, b,c]", list(none, a(), b(), c()))
	want(t, "[a|b]", list(b(), a()))
	want(t, "[a, b | c]", list(c(), a(), b()))
	want(t, "[a|[]]", list(none, a()))
	want(t, "[a|[b|[c]]]", list(none, a(), b(), c()))
	want(t, "[[]|[]]", list(none, none))
	want(t, "[[], [[a]]]", list(none, none, list(none, list(none, a()))))
	want(t, "[a = b, c|a < b]", list(fun("<", a(), b()), fun("=", a(), b()), c()))
	want(t, "[a, b] = [X|_]", fun("=", list(none, a(), b()), list(variable(1), variable(0))), "X", "_")
	want(t, "- []", fun("-", none))
	wrong(t, "[", 1, api.ErrEnd)
	wrong(t, "[.", 1, api.ErrEnd)
	wrong(t, "[a", 2, api.ErrEnd)
	wrong(t, "[a,", 3, api.ErrEnd)
	wrong(t, "[a|", 3, api.ErrEnd)
	wrong(t, "[a|b", 4, api.ErrEnd)
	wrong(t, "[a|b.", 4, api.ErrEnd)
	wrong(t, "[a,]", 3, api.ErrToken)
	wrong(t, "[,a]", 1, api.ErrToken)
	wrong(t, "[|a]", 1, api.ErrToken)
	wrong(t, "[|]", 1, api.ErrToken)
	wrong(t, "[a|]", 3, api.ErrToken)
	wrong(t, "[a|b,c]", 4, api.ErrToken)
	wrong(t, "[a|b|c]", 4, api.ErrToken)
	wrong(t, "[a b]", 3, api.ErrToken)
	wrong(t, "[a)", 2, api.ErrToken)
	wrong(t, "[]]", 2, api.ErrToken)
	wrong(t, "[](a)", 2, api.ErrToken)
	wrong(t, "[a](b)", 3, api.ErrToken)
}

// P5.1, P5.4: of two operators that one is within whose rank may stand there.
func TestPairs(t *testing.T) {
	const loose, middle, tight = 1, 2, 3
	level := map[string]int{"=": loose, "<": loose, "+": middle, "-": middle, "*": tight}
	for x, levelX := range level {
		want(t, "a "+x+" b", fun(x, a(), b()))
		want(t, "- a "+x+" - b", fun(x, fun("-", a()), fun("-", b())))
		for y, levelY := range level {
			s := "a " + x + " b " + y + " c"
			toRight, toLeft := fun(x, a(), fun(y, b(), c())), fun(y, fun(x, a(), b()), c())
			switch {
			case levelX < levelY:
				want(t, s, toRight)
			case levelX > levelY || levelX != loose:
				want(t, s, toLeft)
			default:
				wrongBoth(t, s, 6, api.ErrRank)
				wrong(t, "f("+s+")", 8, api.ErrRank)
				wrong(t, "[a|"+s+"]", 9, api.ErrRank)
			}
			want(t, "(a "+x+" b) "+y+" c", toLeft)
			want(t, "a "+x+" (b "+y+" c)", toRight)
		}
	}
}

// P5.1, P5.4: longer ones stand as their ranks tell.
func TestOperators(t *testing.T) {
	want(t, "a = b + c * a - b", fun("=", a(), fun("-", fun("+", b(), fun("*", c(), a())), b())))
	want(t, "a * b + c < a - b * c", fun("<", fun("+", fun("*", a(), b()), c()), fun("-", a(), fun("*", b(), c()))))
	want(t, "- a * b", fun("*", fun("-", a()), b()))
	want(t, "a * - b * c", fun("*", fun("*", a(), fun("-", b())), c()))
	want(t, "- - a + b", fun("+", fun("-", fun("-", a())), b()))
	want(t, "-(a + b)", fun("-", fun("+", a(), b())))
	want(t, "-f(a)", fun("-", fun("f", a())))
	want(t, "-X = [-Y]", fun("=", fun("-", variable(0)), list(fun("[]"), fun("-", variable(1)))), "X", "Y")
	want(t, "a=b", fun("=", a(), b()))
	// The error stands at the operator, as soon as it is met.
	wrong(t, "a = b + c = d)", 10, api.ErrRank)
	wrong(t, "a = b < ", 6, api.ErrRank)
	wrong(t, "f(a) =b% \n = g", 11, api.ErrRank)
	want(t, "(a = b) = c", fun("=", fun("=", a(), b()), c()))
	want(t, "f(a = b, b = c) = c", fun("=", fun("f", fun("=", a(), b()), fun("=", b(), c())), c()))
	for _, s := range []string{"=", "= a", "+ a", "* a", ":- a", `\+ a`, "\\", "== a", "), a", ", a", "| a", "] a"} {
		wrongBoth(t, s, 0, api.ErrToken)
	}
	for _, s := range []string{"a = = b", "a - * b", "a = )", "a - ,", "a = | b", `a = \+ b`} {
		wrong(t, s, 4, api.ErrToken)
	}
	for _, s := range []string{"a > b", "a == b", "a / b", `a \+ b`, "a :- b", "a =.", "a =- b", "a , b", "a | b", "a )", "a ]", "a . b"} {
		at := 2 + 2*strings.Count(s, ". b")
		wrong(t, s, at, api.ErrToken)
	}
	for _, s := range []string{"a =", "a -", "- a *", "f(-", "-", "- ", "-% a"} {
		wrongBoth(t, s, len(s), api.ErrEnd)
		wrongBoth(t, s+"\n.", len(s)+1, api.ErrEnd)
	}
}

// P5.1: a text has one term, and behind it nothing, or an End and nothing.
func TestEnds(t *testing.T) {
	for _, s := range []string{"", " ", "% a", "(", "f(", "f(a,", "((a)", "(a", " f ( a "} {
		wrong(t, s, len(s), api.ErrEnd)
		wrong(t, s+"\n.", len(s)+1, api.ErrEnd)
		wrong(t, s+"\n. a", len(s)+1, api.ErrEnd)
	}
	wrong(t, ".", 0, api.ErrEnd)
	wrong(t, "a. b", 3, api.ErrToken)
	wrong(t, "a. b. ", 3, api.ErrToken)
	wrong(t, "a. .", 3, api.ErrToken)
	wrong(t, "a.\n)", 3, api.ErrToken)
	// This is no End, but a Sym.
	wrong(t, "a..", 1, api.ErrToken)
	wrong(t, "a.b", 1, api.ErrToken)
	wrong(t, ".b", 0, api.ErrToken)
}

// P5.1: first lex's error is told, wherever it stands.
func TestLexFirst(t *testing.T) {
	wrongBoth(t, "f( {", 3, api.ErrChar)
	wrongBoth(t, ") ) a b = = 'a", 12, api.ErrQuote)
	wrongBoth(t, "a = b = c thirteen_byte", 10, api.ErrBig)
	wrongBoth(t, "X. 5. 2147483648", 6, api.ErrBig)
	wrongBoth(t, nest(250, "a")+" ;", 751+1, api.ErrChar)
	wrongBoth(t, strings.Repeat("p. ", 65)+"\x00", 195, api.ErrChar)
	wrongBoth(t, strings.Repeat(" ", api.MaxText+1), 0, api.ErrBig)
	wrongBoth(t, strings.Repeat(" ", api.MaxText)+")", 0, api.ErrBig)
}

// P5.1: a whole term that is not right is told of at its first token, as soon as it has been read.
func TestNotRight(t *testing.T) {
	want(t, "f(1,2,3,4,5,6)", fun("f", number(1), number(2), number(3), number(4), number(5), number(6)))
	seven := "f(1,2,3,4,5,6,7)"
	wrongBoth(t, seven, 0, api.ErrBig)
	wrongBoth(t, " "+seven, 1, api.ErrBig)
	wrongBoth(t, " ("+seven+")", 1, api.ErrBig)
	wrongBoth(t, "[a, "+seven+"]", 0, api.ErrBig)
	wrongBoth(t, "- "+seven, 0, api.ErrBig)
	wrongBoth(t, "a = "+seven, 0, api.ErrBig)
	wrongBoth(t, "%\ng(a, "+seven+")", 2, api.ErrBig)
	// What is wrong ahead of its last token, and what is told at that place, comes first; what stands behind it comes later.
	wrongBoth(t, "g("+seven+" b", 19, api.ErrToken)
	wrongBoth(t, "g("+seven, 18, api.ErrEnd)
	wrongBoth(t, "a = "+seven+" = b", 21, api.ErrRank)
	wrongBoth(t, seven+" b", 0, api.ErrBig)
	wrongBoth(t, seven+")", 0, api.ErrBig)
	wrongBoth(t, seven+". )", 0, api.ErrBig)
}

// P5.1: a term has up to 200 cells.
func TestCells(t *testing.T) {
	deep := a()
	for range 199 {
		deep = fun("s", deep)
	}
	want(t, nest(199, "a"), deep)
	wrongBoth(t, nest(200, "a"), 0, api.ErrBig)
	wrongBoth(t, nest(6600, "a"), 0, api.ErrBig)
	for s, cells := range map[string]int{
		"[" + strings.Repeat("1,", 98) + "1]":                       199,
		"[" + strings.Repeat("1,", 98) + "1|-1]":                    199,
		"[" + strings.Repeat("1,", 98) + "1|- 1]":                   200,
		strings.Repeat("1+", 99) + "1":                              199,
		"-(" + strings.Repeat("1+", 99) + "1)":                      200,
		strings.Repeat("- ", 199) + "1":                             200,
		strings.Repeat("(", 9999) + "a" + strings.Repeat(")", 9999): 1,
	} {
		if x, _, at, e := read.Term(s); len(x) != cells || at != 0 || e != api.OK {
			t.Errorf("%.30q %d %d %v", s, len(x), at, e)
		}
	}
	for _, s := range []string{"[" + strings.Repeat("1,", 99) + "1]", strings.Repeat("1+", 100) + "1", strings.Repeat("- ", 200) + "1", strings.Repeat("1*", 9999) + "1", "[" + strings.Repeat("1,", 9998) + "1]", strings.Repeat("- ", 9999) + "1"} {
		wrongBoth(t, s, 0, api.ErrBig)
	}
	for _, s := range []string{strings.Repeat("(", api.MaxText), strings.Repeat("[", api.MaxText), strings.Repeat("- ", api.MaxText/2), strings.Repeat("f(", api.MaxText/2), strings.Repeat("1*", api.MaxText/2), strings.Repeat("[-1|", api.MaxText/4)} {
		wrongBoth(t, s, api.MaxText, api.ErrEnd)
	}
}

// P5.1: clauses are facts, or have bodies; a literal may be negative.
func TestPrograms(t *testing.T) {
	p, q, r := fun("p"), fun("q"), fun("r")
	for _, s := range []string{"", " ", "% p.", "\n%\n"} {
		wantProgram(t, s)
	}
	wantProgram(t, "p.", clause(p))
	wantProgram(t, "p. q.\n'r'.% s.", clause(p), clause(q), clause(r))
	wantProgram(t, "p :- q.", clause(p, is(q)))
	wantProgram(t, "p:-q,r.", clause(p, is(q), is(r)))
	wantProgram(t, `p:- \+q, \+ (r).`, clause(p, not(q), not(r)))
	wantProgram(t, "(p) :- (q), r. q.", clause(p, is(q), is(r)), clause(q))
	wantProgram(t, "a = b. a = b :- a < b, - c. - c. []. [a|b].", clause(fun("=", a(), b())), clause(fun("=", a(), b()), is(fun("<", a(), b())), is(fun("-", c()))), clause(fun("-", c())), clause(fun("[]")), clause(list(b(), a())))
	wantProgram(t, `X = Y :- \+ X < Y, _ = _.`, clause(fun("=", variable(0), variable(1)), not(fun("<", variable(0), variable(1))), is(fun("=", variable(2), variable(3)))))
	// Variables are numbered anew in each clause, through all of it.
	wantProgram(t, "p(X, Y) :- q(Y, Z), r(Z). p(Z) :- q(X), r(_, Z).",
		clause(fun("p", variable(0), variable(1)), is(fun("q", variable(1), variable(2))), is(fun("r", variable(2)))),
		clause(fun("p", variable(0)), is(fun("q", variable(1))), is(fun("r", variable(2), variable(0)))))
	// Whether clauses are safe is not asked.
	wantProgram(t, `p(X) :- \+ q(X).`, clause(fun("p", variable(0)), not(fun("q", variable(0)))))
}

// P5.1: what may not stand in a program.
func TestWrongPrograms(t *testing.T) {
	for _, s := range []string{"p", "p :-", "p :- q", "p :- q,", `p :- \+`, `p :- \+ q, \+`, "p. q", "p(", "p. q :- r, [a"} {
		wrongProgram(t, s, len(s), api.ErrEnd)
		wrongProgram(t, s+" ", len(s)+1, api.ErrEnd)
	}
	for s, at := range map[string]int{"p :- .": 5, "p :- q, .": 8, `p :- \+ .`: 8, ".": 0, "p. .": 3, "p(. q.": 2, "p :- q, [. r.": 9} {
		wrongProgram(t, s, at, api.ErrEnd)
	}
	for s, at := range map[string]int{
		"X.": 0, "5.": 0, "-5.": 0, "(X).": 0, "p. _ :- q.": 3, "p :- X.": 5, "p :- 5.": 5, "p :- q, (5).": 8, `p :- \+ X.`: 8, `p :- \+ (5).`: 8, `p :- q, \+ -5.`: 11,
		"X q.": 0, "X": 0, "5 :-": 0, "p :- X": 5, "p :- X q": 5, "p :- 5,": 5, "p :- 5 = X, 5": 12,
		"p q.": 2, "p, q.": 1, "p | q.": 2, "p) .": 1, "p :- q r.": 7, "p :- q :- r.": 7, "p :- q | r.": 7, "p :- q).": 6,
		`p :- \+ \+ q.`: 8, `\+ p.`: 0, `\+ p :- q.`: 0, `p \+ q.`: 2, ":- p.": 0, "p :- :- q.": 5, "p :- , q.": 5, "p :- q,, r.": 7, "p :- (q, r).": 7, "(p :- q).": 3, `p :- (\+ q).`: 6,
		`p :-\+ q.`: 2, "p..": 1, "p.q.": 1, "p == q.": 2, "f().": 2,
	} {
		wrongProgram(t, s, at, api.ErrToken)
	}
	wrongProgram(t, "p. a = b = c.", 9, api.ErrRank)
	wrongProgram(t, `p :- q, \+ a < b = c.`, 17, api.ErrRank)
	wrongProgram(t, "p. q(1,2,3,4,5,6,7). r", 3, api.ErrBig)
	wrongProgram(t, `p :- q, \+ f(1,2,3,4,5,6,7) r`, 11, api.ErrBig)
}

// P5.1: a body has up to 8 literals; the 9th is told of at what stands behind the comma, whatever that is.
func TestBodies(t *testing.T) {
	l := []api.Lit{}
	for i := range api.MaxBody {
		l = append(l, is(fun("q", number(i))))
	}
	s := "p :- q(0), q(1), q(2), q(3), q(4), q(5), q(6), q(7)"
	wantProgram(t, s+".", clause(fun("p"), l...))
	wantProgram(t, s+". "+s+".", clause(fun("p"), l...), clause(fun("p"), l...))
	for _, more := range []string{"q.", `\+ q.`, "X.", ".", ")", ",", "= q", "f(1,2,3,4,5,6,7)", "", "q"} {
		wrongProgram(t, s+", "+more, len(s)+2, api.ErrBig)
	}
	wrongProgram(t, s+",", len(s)+1, api.ErrBig)
	wrongProgram(t, s+" q", len(s)+1, api.ErrToken)
	wrongProgram(t, s, len(s), api.ErrEnd)
	wrongProgram(t, strings.Replace(s, "q(7)", "7", 1)+", q", len(s)-4, api.ErrToken)
}

// P5.1: a program has up to 64 clauses; the 65th is told of at its first token, whatever that is.
func TestClauses(t *testing.T) {
	var s strings.Builder
	var l []api.Clause
	for i := range api.MaxClauses {
		s.WriteString("p(" + strconv.Itoa(i) + "). ")
		l = append(l, clause(fun("p", number(i))))
	}
	wantProgram(t, s.String(), l...)
	wantProgram(t, s.String()+"% q.", l...)
	for _, more := range []string{"p.", "p", "X.", ".", ")", ":- q.", "f(1,2,3,4,5,6,7).", "a = b = c."} {
		wrongProgram(t, s.String()+more, s.Len(), api.ErrBig)
		wrongProgram(t, s.String()+"%\n"+more, s.Len()+2, api.ErrBig)
	}
	wrongProgram(t, s.String()[:s.Len()-3]+" q. )", s.Len()-2, api.ErrToken)
}

// P5.1, P5.2: a variable's number may be up to 999, which a clause's literals may reach together; ErrBig comes ahead of ErrToken.
func TestManyVariables(t *testing.T) {
	body := "p(X) :- "
	for range 6 {
		body += wide(166) + ", "
	}
	// There are 997 variables by now: X, and 6 times 166.
	for s, e := range map[string]api.Errno{"q(_, _, _).": api.OK, "q(X, _, _, _).": api.OK, "q(_, _, _, _).": api.ErrBig, "q(_, _, _), q(X).": api.OK, "X.": api.ErrToken, "Y.": api.ErrToken} {
		if e == api.OK {
			if l, at, got := read.Program(body + s); len(l) != 1 || at != 0 || got != api.OK {
				t.Errorf("%q %d %v", s, at, got)
			}
			continue
		}
		wrongProgram(t, body+s, len(body), e)
		wrongProgram(t, body+`\+ `+s, len(body)+3, e)
	}
	full := body + "q(_, _, _), "
	wrongProgram(t, full+"Y.", len(full), api.ErrBig)
	wrongProgram(t, full+"(_) q", len(full), api.ErrBig)
	wrongProgram(t, full+"X.", len(full), api.ErrToken)
	wrongProgram(t, full+`\+ q(Y).`, len(full)+3, api.ErrBig)
	// The next clause begins with 0 again.
	l, _, e := read.Program(full + "q(X). p(Y).")
	if e != api.OK || len(l) != 2 || l[0].Body[6].T[3] != variable(999)[0] || l[1].Head[1] != variable(0)[0] {
		t.Errorf("%d %v", len(l), e)
	}
}

// P5.1: operators are told by their names.
func TestOp(t *testing.T) {
	type ranks struct{ rank, left, right int }
	between := map[string]ranks{"=": {700, 699, 699}, "<": {700, 699, 699}, "+": {500, 500, 499}, "-": {500, 500, 499}, "*": {400, 400, 399}}
	ahead := map[string]ranks{"-": {200, 0, 200}}
	names := []string{"", "=", "<", "+", "-", "*", "/", ">", "==", "=<", ":-", `\+`, "--", "- ", " -", "'-'", ".", ",", "|", "(", "[]", "a", "X", "1", "\x00", "\xff", strings.Repeat("-", 30000)}
	for _, name := range names {
		for prefix, table := range map[bool]map[string]ranks{true: ahead, false: between} {
			rank, left, right := read.Op(name, prefix)
			if got := (ranks{rank, left, right}); got != table[name] {
				t.Errorf("%.20q %v told %v", name, prefix, got)
			}
		}
	}
}
