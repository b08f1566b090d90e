package print_test

import (
	"slices"
	"strconv"
	"strings"
	"testing"
	"unsafe"

	"sorrel/api"
	"sorrel/print"
)

// P6.1: the chapter's examples.
func TestExamples(t *testing.T) {
	want(t, fun("=", variable(0), fun("+", variable(1), number(-1))), "(A = (B + -1))")
	want(t, fun(".", fun("a"), fun(".", variable(1), fun("[]"))), "[a,B]")
	want(t, fun(".", fun("a"), variable(1)), "[a|B]")
	want(t, fun("[]", fun("a")), "'[]'(a)")
	want(t, variable(27), "B1")
}

// P6.1: a variable's letters are a letter by its rest, and behind it how often 26 goes into its number, from 26 on.
func TestVarName(t *testing.T) {
	n := 0
	for round := 0; n <= api.MaxVar; round++ {
		for letter := 'A'; letter <= 'Z' && n <= api.MaxVar; letter++ {
			s := string(letter)
			if round > 0 {
				s += strconv.Itoa(round)
			}
			if got := print.VarName(n); got != s {
				t.Fatalf("of %d told %q, wanted %q", n, got, s)
			}
			want(t, variable(n), s)
			n++
		}
	}
}

// P6.1: a number has its decimal digits, and a - below 0.
func TestNumbers(t *testing.T) {
	for n, s := range map[int]string{0: "0", 7: "7", 10: "10", -1: "-1", -100: "-100", api.MaxInt: "2147483647", -api.MaxInt: "-2147483647"} {
		want(t, number(n), s)
	}
}

// P6.1: a name of letters that begins with a to z stands alone, all others between two '.
func TestQuote(t *testing.T) {
	for _, name := range []string{"a", "z", "aZ", "a_", "a9", "az09_AZ", "twelve_bytes"} {
		if got := print.Quote(name); got != name {
			t.Errorf("of %q told %q", name, got)
		}
		want(t, fun(name), name)
	}
	for _, name := range []string{"A", "Z", "_", "_a", "0", "9a", " ", " a", "a ", "a-", "a.", "it is", "+", "-", "=", "<", "*", ".", ":-", `\+`, "[", "]", "(", "%", `"`, "`", "{", "@", "a@", "a[", "a`", "a{", "a/", "a:", "/", "~", "Twelve_bytes"} {
		if got := print.Quote(name); got != "'"+name+"'" {
			t.Errorf("of %q told %q", name, got)
		}
		want(t, fun(name), "'"+name+"'")
	}
}

// P6.1: every byte that a name may have stands alone, or in quotes, as it may: as the first one, and behind it.
func TestQuoteBytes(t *testing.T) {
	const small, others = "abcdefghijklmnopqrstuvwxyz", "ABCDEFGHIJKLMNOPQRSTUVWXYZ0123456789_"
	for c := byte(32); c <= 126; c++ {
		if c == '\'' {
			continue
		}
		for _, name := range []string{string(c), string(c) + "b", "b" + string(c), "b" + string(c) + "b"} {
			s := "'" + name + "'"
			if strings.IndexByte(small, c) >= 0 || name[0] == 'b' && strings.IndexByte(others, c) >= 0 {
				s = name
			}
			if got := print.Quote(name); got != s {
				t.Errorf("of %q told %q, wanted %q", name, got, s)
			}
		}
	}
}

// P6.1: [] without arguments stands alone, but its letters as a name are between two '.
func TestEmptyList(t *testing.T) {
	want(t, fun("[]"), "[]")
	if got := print.Quote("[]"); got != "'[]'" {
		t.Error(got)
	}
	want(t, fun("[]", fun("[]")), "'[]'([])")
	want(t, fun("[]", number(1), number(2)), "'[]'(1,2)")
	want(t, fun("f", fun("[]"), fun("[]")), "f([],[])")
}

// P6.1: operators stand between two arguments alone, in parentheses, however deep they stand.
func TestInfix(t *testing.T) {
	a, b, c := fun("a"), fun("b"), fun("c")
	for _, name := range []string{"=", "<", "+", "-", "*"} {
		want(t, fun(name, a, b), "(a "+name+" b)")
		want(t, fun(name, fun(name, a, b), c), "((a "+name+" b) "+name+" c)")
		want(t, fun(name, a, fun(name, b, c)), "(a "+name+" (b "+name+" c))")
		want(t, fun(name), "'"+name+"'")
		want(t, fun(name, a, b, c), "'"+name+"'(a,b,c)")
		if name != "-" {
			want(t, fun(name, a), "'"+name+"'(a)")
		}
	}
	for _, name := range []string{">", "/", "=<", "==", "+-", "<+", "**", ":-", ",", "|", `\+`} {
		want(t, fun(name, a, b), "'"+name+"'(a,b)")
	}
	want(t, fun("mod", a, b), "mod(a,b)")
}

// P6.1: a - with one argument stands ahead of it, in its own parentheses alone.
func TestMinus(t *testing.T) {
	want(t, fun("-", number(5)), "-(5)")
	want(t, fun("-", number(-5)), "-(-5)")
	want(t, fun("-", fun("-", variable(0))), "-(-(A))")
	want(t, fun("-", fun("=", variable(0), fun("a"))), "-((A = a))")
	want(t, fun("-", fun("-", number(1)), fun("-", number(1))), "(-(1) - -(1))")
	want(t, fun("-", number(-1), number(-1)), "(-1 - -1)")
	want(t, fun("-"), "'-'")
}

// P6.1: a list is written as far as its Funs go, and what stands behind the last one is, unless it is [].
func TestLists(t *testing.T) {
	a, b, nothing := fun("a"), fun("b"), fun("[]")
	want(t, list(nothing, a), "[a]")
	want(t, list(nothing, a, b, a), "[a,b,a]")
	want(t, list(variable(2), a, b), "[a,b|C]")
	want(t, list(number(-1), number(-1)), "[-1|-1]")
	want(t, list(fun("-", a), fun("-", a)), "[-(a)|-(a)]")
	want(t, list(fun("[]", a), a), "[a|'[]'(a)]")
	want(t, list(fun("."), a), "[a|'.']")
	want(t, list(fun(".", b), a), "[a|'.'(b)]")
	want(t, list(fun(".", b, b, b), a), "[a|'.'(b,b,b)]")
	want(t, list(fun("=", a, b), fun("=", a, b)), "[(a = b)|(a = b)]")
	want(t, list(nothing, list(nothing, a), nothing, list(b, a)), "[[a],[],[a|b]]")
	want(t, list(list(nothing, a), list(nothing, b)), "[[b],a]")
	want(t, fun("f", list(b, a), list(nothing, b)), "f([a|b],[b])")
}

// P6.1: the greatest terms are written whole.
func TestGreatest(t *testing.T) {
	deep, s := number(0), "0"
	wide, items := fun("[]"), ""
	for len(deep) < api.MaxCells {
		deep, s = fun("-", deep), "-("+s+")"
	}
	want(t, deep, s)
	for len(wide) < api.MaxCells-1 {
		wide, items = fun(".", variable(999), wide), items+",L38"
	}
	want(t, wide, "["+items[1:]+"]")
}

// P6.1: a clause is its head, its literals, and a full stop.
func TestClause(t *testing.T) {
	p, q, r := fun("p", variable(0)), fun("q", variable(0), variable(30)), fun("<", variable(30), number(3))
	wantClause(t, clause(fun("a")), "a.")
	wantClause(t, api.Clause{Head: p, Body: []api.Lit{}}, "p(A).")
	wantClause(t, clause(p, is(q)), "p(A) :- q(A,E1).")
	wantClause(t, clause(p, not(q)), `p(A) :- \+ q(A,E1).`)
	wantClause(t, clause(p, is(q), not(r), is(r)), `p(A) :- q(A,E1), \+ (E1 < 3), (E1 < 3).`)
	wantClause(t, clause(r, not(fun("-", p)), is(fun("+"))), `(E1 < 3) :- \+ -(p(A)), '+'.`)
	wantClause(t, clause(fun("[]"), is(list(fun("[]"), p)), not(fun("[]"))), `[] :- [p(A)], \+ [].`)
	eight := slices.Repeat([]api.Lit{is(fun("b"))}, api.MaxBody)
	wantClause(t, clause(fun("a"), eight...), "a :- b, b, b, b, b, b, b, b.")
}

// P6.1: a program is its clauses, in order, each with a line feed behind it.
func TestProgram(t *testing.T) {
	l := []api.Clause{clause(fun("a")), clause(fun("b"), not(fun("a"))), clause(fun("a"))}
	if got := print.Program(l); got != "a.\nb :- \\+ a.\na.\n" {
		t.Errorf("%q", got)
	}
	if got := print.Program(l[:1]); got != "a.\n" {
		t.Errorf("%q", got)
	}
	if print.Program(nil) != "" || print.Program([]api.Clause{}) != "" {
		t.Error("none")
	}
}

// P1: of rows that are no right terms nothing is said; they have no letters, and what stands around them is written.
func TestNotRight(t *testing.T) {
	cut, more := fun("f", number(1))[:1], append(number(1), number(2)...)
	for _, x := range [][]api.Cell{nil, {}, {{}}, cut, more, variable(-1), variable(1000), number(api.MaxInt + 1), fun(""), fun("it's"), fun("thirteenbytes"), fun("\n"), {{Kind: api.Fun, Name: "f", N: -1}}, {{Kind: 4, Name: "f"}}} {
		want(t, x, "")
		wantClause(t, clause(x), ".")
		wantClause(t, clause(x, is(x), not(x), is(fun("a"))), ` :- , \+ , a.`)
	}
	long := fun("-", number(1))
	for len(long) <= api.MaxCells {
		long = fun("-", long)
	}
	want(t, long, "")
	if print.VarName(-1) != "" || print.Quote("") != "''" {
		t.Error("no variable, or no name")
	}
}

// P3: a text is memory of its own: a name that is handed in is not kept by it.
func TestQuoteNotShared(t *testing.T) {
	name := strings.Repeat("a", 5)
	for _, s := range []string{print.Quote(name), print.Term(fun(name))} {
		if s != name || unsafe.StringData(s) == unsafe.StringData(name) {
			t.Error("shared", s)
		}
	}
}
