package read_test

import (
	"slices"
	"strings"
	"testing"

	"sorrel/api"
	"sorrel/lex"
	"sorrel/read"
	"sorrel/term"
)

// P5.1: a term is read as it was written, in all ways that are open.
func TestWritten(t *testing.T) {
	from := seeded(2)
	for range 8000 {
		x := from.right()
		for _, plain := range []bool{true, false} {
			s, names := from.write(x, plain)
			want(t, s, term.Number(x), names...)
			want(t, s+from.just(".", " .", ". ", ".\n% ."), term.Number(x), names...)
		}
	}
}

// P5.1: clauses and programs are read as they were written.
func TestWrittenPrograms(t *testing.T) {
	from := seeded(3)
	for range 3000 {
		l, s := from.program(5)
		wantProgram(t, s, l...)
	}
}

// P5.2: what is read is right, its variables numbered as they come, and places lie in the text, or at its end.
func TestRight(t *testing.T) {
	from := seeded(4)
	var count [4]int
	for range 30000 {
		s := from.any()
		x, names, at, e := read.Term(s)
		if e == api.OK {
			count[0]++
			inOrder(t, s, x, len(names))
			if at != 0 || !term.Right(x) {
				t.Fatalf("%q %v %d", s, x, at)
			}
		} else {
			count[1]++
			placed(t, s, at, e)
		}
		l, at, e := read.Program(s)
		if e == api.OK {
			count[2]++
			for _, c := range l {
				may(t, s, c)
			}
		} else {
			count[3]++
			placed(t, s, at, e)
		}
	}
	if slices.Min(count[:]) < 2000 {
		t.Error("too few to tell:", count)
	}
}

// inOrder asks that variables, so many of them, are numbered as they come.
func inOrder(t *testing.T, s string, cells []api.Cell, many int) {
	t.Helper()
	for i, n := range term.Vars(cells) {
		if i != n {
			t.Fatalf("%q %v", s, cells)
		}
	}
	if many >= 0 && len(term.Vars(cells)) != many {
		t.Fatalf("%q %v %d", s, cells, many)
	}
}

// may says what each clause keeps to.
func may(t *testing.T, s string, c api.Clause) {
	t.Helper()
	all := c.Head
	rows := [][]api.Cell{c.Head}
	for _, l := range c.Body {
		all = slices.Concat(all, l.T)
		rows = append(rows, l.T)
	}
	inOrder(t, s, all, -1)
	for _, x := range rows {
		if !term.Right(x) || x[0].Kind != api.Fun || len(c.Body) > api.MaxBody {
			t.Fatalf("%q %v", s, c)
		}
	}
}

// placed asks that an error is one of those that may be, at a place where something stands, or at the end.
func placed(t *testing.T, s string, at int, e api.Errno) {
	t.Helper()
	may := []api.Errno{api.ErrToken, api.ErrEnd, api.ErrRank, api.ErrBig, api.ErrChar, api.ErrQuote}
	if at < 0 || at > len(s) || at == len(s) && e != api.ErrEnd && e != api.ErrBig || !slices.Contains(may, e) {
		t.Fatalf("%q %d %v", s, at, e)
	}
	if at < len(s) && strings.IndexByte(blanks+"%", s[at]) >= 0 {
		t.Fatalf("%q %d: nothing stands there", s, at)
	}
}

// P5.1: an error hangs on what stands ahead of it, and on its own token, alone; the text ahead of it could go on.
func TestLeftToRight(t *testing.T) {
	from := seeded(5)
	var count [2]int
	for range 20000 {
		s := from.any()
		_, _, at, e := read.Term(s)
		_, atP, eP := read.Program(s)
		for i, x := range []struct {
			at int
			e  api.Errno
		}{{at, e}, {atP, eP}} {
			if x.e != api.ErrToken && x.e != api.ErrRank {
				continue
			}
			if i == 1 && strings.IndexByte("-([", s[x.at]) >= 0 || letter(s[x.at]) {
				// It may stand for an atom that is none, which hangs on all of it.
				continue
			}
			if tokenAt(s, x.at) == "." {
				// With a blank behind it, it would be another token.
				continue
			}
			ask := func(s string) (int, api.Errno) { _, _, at, e := read.Term(s); return at, e }
			if i == 1 {
				ask = func(s string) (int, api.Errno) { _, at, e := read.Program(s); return at, e }
			}
			// What stands behind it plays no part, if it may be a text's at all.
			if got, e := ask(s[:x.at] + tokenAt(s, x.at) + " a ( = ."); got != x.at || e != x.e {
				t.Fatalf("%q %d %v: %d %v", s, x.at, x.e, got, e)
			}
			got, e := ask(s[:x.at])
			if e == x.e && got == x.at {
				t.Fatalf("%q %d %v: it is so without the token, too", s, x.at, x.e)
			}
			if e != api.OK && !(e == api.ErrEnd && got == x.at) {
				continue
			}
			count[i]++
		}
	}
	if slices.Min(count[:]) < 1000 {
		t.Error("too few to tell:", count)
	}
}

// tokenAt is the text of the token that begins at a place.
func tokenAt(s string, at int) string {
	same := func(is func(c byte) bool) string {
		n := 0
		for at+n < len(s) && is(s[at+n]) {
			n++
		}
		return s[at : at+n]
	}
	switch {
	case letter(s[at]):
		return same(letter)
	case sign(s[at]):
		return same(sign)
	case s[at] == '\'':
		return s[at : at+2+strings.IndexByte(s[at+1:], '\'')]
	}
	return s[at : at+1]
}

// P5.3: programs, one behind the other, are read as both.
func TestJoined(t *testing.T) {
	from := seeded(6)
	var count [3]int
	for range 8000 {
		_, a := from.program(3)
		_, b := from.program(3)
		if from.IntN(2) == 0 {
			// Behind an End nothing of what stands ahead of it goes on.
			a = from.broken(a) + "\n."
		}
		if from.IntN(2) == 0 {
			b = from.broken(b)
		}
		l, at, e := read.Program(a)
		m, atB, eB := read.Program(b)
		both := a + "\n" + b
		switch _, atLex, eLex := lex.Lex(b); {
		case eLex != api.OK:
			if _, _, e := lex.Lex(a); e == api.OK {
				wrongProgram(t, both, len(a)+1+atLex, eLex)
			}
		case e == api.OK && eB == api.OK:
			count[0]++
			wantProgram(t, both, slices.Concat(l, m)...)
		case e == api.OK:
			count[1]++
			wrongProgram(t, both, len(a)+1+atB, eB)
		case at < len(a):
			count[2]++
			wrongProgram(t, both, at, e)
		}
	}
	if slices.Min(count[:]) < 1000 {
		t.Error("too few to tell:", count)
	}
}

// P5.3: up to 64 clauses they are read as both; above that the second one's are told of.
func TestJoinedLimit(t *testing.T) {
	a, b := strings.Repeat("p. ", 40), strings.Repeat("q. ", 24)
	l, _, _ := read.Program(a)
	m, _, _ := read.Program(b)
	wantProgram(t, a+b, slices.Concat(l, m)...)
	wrongProgram(t, a+b+b, 3*64, api.ErrBig)
}

// P5.3: a blank, or a remark, ahead of all moves places alone.
func TestBlankAhead(t *testing.T) {
	from := seeded(7)
	var count [2]int
	for range 8000 {
		s := from.any()
		for _, more := range []string{" ", "\n", "\t\r", "% ( a\n"} {
			x, names, at, e := read.Term(s)
			if e == api.OK {
				count[0]++
				want(t, more+s, x, names...)
			} else {
				count[1]++
				wrong(t, more+s, len(more)+at, e)
			}
			l, at, e := read.Program(s)
			if e == api.OK {
				wantProgram(t, more+s, l...)
			} else {
				wrongProgram(t, more+s, len(more)+at, e)
			}
		}
	}
	if slices.Min(count[:]) < 2000 {
		t.Error("too few to tell:", count)
	}
}

// P5.3: a term that is an atom is read as a clause; one that is none is told of at its first token.
func TestAtomAsClause(t *testing.T) {
	from := seeded(8)
	var count [4]int
	for range 12000 {
		s, _ := from.write(from.right(), false)
		if from.IntN(3) == 0 {
			s = from.broken(s)
		}
		x, _, at, e := read.Term(s)
		switch {
		case strings.Contains(s, ". ") || strings.HasSuffix(s, ".") || strings.Contains(s, ":-"):
			// There may be more clauses than one.
		case e == api.OK && x[0].Kind == api.Fun:
			count[0]++
			wantProgram(t, s+"\n.", clause(x))
			wantProgram(t, "h :- "+s+"\n.", clause(fun("h"), is(x)))
			wantProgram(t, `h :- h, \+ `+s+"\n.", clause(fun("h"), is(fun("h")), not(x)))
		case e == api.OK:
			count[1]++
			wrongProgram(t, "\n"+s+"\n.", 1+modelled(s).here().At, api.ErrToken)
		case e == api.ErrEnd && at == len(s):
			count[2]++
			wrongProgram(t, s+"\n.", at+1, e)
		case e != api.ErrToken:
			count[3]++
			wrongProgram(t, s+"\n.", at, e)
		}
	}
	if slices.Min(count[:]) < 50 {
		t.Error("too few to tell:", count)
	}
}

// P5.4: parentheses around a term play no part.
func TestParentheses(t *testing.T) {
	from := seeded(9)
	for range 6000 {
		x := from.right()
		s, names := from.write(x, from.IntN(2) == 0)
		x = term.Number(x)
		want(t, "("+s+")", x, names...)
		want(t, "( ( "+s+"\n))\n.", x, names...)
		if len(x) > 50 {
			continue
		}
		want(t, "f("+s+", (a))", fun("f", x, fun("a")), names...)
		want(t, "f(("+s+"), a)", fun("f", x, fun("a")), names...)
		if !slices.Contains(names, "_") {
			want(t, "["+s+"|("+s+")]", fun(".", x, x), names...)
		}
		for _, name := range []string{"=", "<", "+", "-", "*"} {
			want(t, "("+s+") "+name+" (a)", fun(name, x, fun("a")), names...)
			want(t, "(a "+name+" ("+s+"))", fun(name, fun("a"), x), names...)
		}
		want(t, "-("+s+")", fun("-", x), names...)
	}
}

// P5.4: a list is read as its Funs are.
func TestListsAreFuns(t *testing.T) {
	from := seeded(10)
	for range 4000 {
		var l [][]api.Cell
		funs, ends := "", ""
		var texts []string
		for range from.IntN(4) {
			x := fun("f", from.term(2))
			if !term.Ground(x) {
				continue
			}
			s, _ := from.write(x, false)
			l = append(l, x)
			texts = append(texts, s)
			funs += "'.'(" + s + ","
			ends += ")"
		}
		items := strings.Join(texts, " ,")
		want(t, "["+items+"]", list(fun("[]"), l...))
		want(t, funs+"[]"+ends, list(fun("[]"), l...))
		want(t, funs+"'[]'"+ends, list(fun("[]"), l...))
		if len(l) > 0 {
			want(t, "["+items+"|T]", list(variable(0), l...), "T")
			want(t, "["+items+"|[]]", list(fun("[]"), l...))
			want(t, "["+items+"|[b = c]]", list(list(fun("[]"), fun("=", fun("b"), fun("c"))), l...))
		}
	}
}

// P5.4: a sign directly ahead of a number is its own, wherever a term may begin, and stands between two behind one.
func TestSigns(t *testing.T) {
	for _, x := range []struct{ before, behind string }{{"", ""}, {"(", ")"}, {"f(", ")"}, {"f(a,", ")"}, {"[", "]"}, {"[a,", "]"}, {"[a|", "]"}, {"a = ", ""}, {"a * ", ""}, {"a - ", ""}, {"- ", ""}, {"", " * 2"}, {"", " = 2"}} {
		asNumber, _, _, e := read.Term(x.before + "-7" + x.behind)
		asName, _, _, f := read.Term(x.before + "- 7" + x.behind)
		if e != api.OK || f != api.OK {
			t.Errorf("%v %v %v", x, e, f)
			continue
		}
		at := slices.Index(asNumber, number(-7)[0])
		if at < 0 {
			t.Errorf("%v %v", x, asNumber)
			continue
		}
		if !slices.Equal(slices.Concat(asNumber[:at], fun("-", number(7)), asNumber[at+1:]), asName) {
			t.Errorf("%v %v %v", x, asNumber, asName)
		}
	}
	for _, left := range []string{"a", "X", "1", "f(a)", "[]", "[a]", "(a)", "'-'"} {
		x, _, _, e := read.Term(left + "-7")
		y, _, _, f := read.Term(left + " - 7")
		if e != api.OK || f != api.OK || !slices.Equal(x, y) || x[0].Name != "-" || x[0].N != 2 || x[len(x)-1] != number(7)[0] {
			t.Errorf("%q %v %v", left, x, y)
		}
	}
}

// P1 and P2: whatever the text, the calls end, and nothing stands beside an error.
func TestAnything(t *testing.T) {
	from := seeded(11)
	var count [2]int
	for range 20000 {
		s := []byte(from.any())
		for range from.IntN(5) {
			if len(s) > 0 {
				s[from.IntN(len(s))] = byte(from.IntN(256))
			}
		}
		e, f := asModelled(t, string(s))
		if e == api.OK || f == api.OK {
			count[0]++
		} else {
			count[1]++
		}
	}
	if slices.Min(count[:]) < 2000 {
		t.Error("too few to tell:", count)
	}
}

// P3: the same text tells the same, in memory of its own.
func TestSameAgain(t *testing.T) {
	from := seeded(12)
	told := 0
	for range 4000 {
		s := from.any()
		x, names, at, e := read.Term(s)
		keep, keepNames := slices.Clone(x), slices.Clone(names)
		y, more, _, _ := read.Term(s)
		spoil(y)
		for i := range more {
			more[i] = "?"
		}
		z, l, atAgain, again := read.Term(s)
		if !slices.Equal(x, keep) || !slices.Equal(names, keepNames) || !slices.Equal(z, keep) || !slices.Equal(l, keepNames) || at != atAgain || e != again {
			t.Fatalf("%q %v %v", s, x, keep)
		}
		p, atP, eP := read.Program(s)
		q, atQ, eQ := read.Program(s)
		if !sameProgram(p, q) || atP != atQ || eP != eQ {
			t.Fatalf("%q %v %v", s, p, q)
		}
		for i, row := range rows(p) {
			told++
			spoil(row)
			_ = append(row, api.Cell{Kind: -2})
			for j, other := range rows(p) {
				if (other[0].Kind == -1) != (j <= i) {
					t.Fatalf("%q: rows share memory", s)
				}
			}
		}
		if again, _, _ := read.Program(s); !sameProgram(again, q) {
			t.Fatalf("%q %v %v", s, again, q)
		}
	}
	if told < 1500 {
		t.Error("too few to tell:", told)
	}
}

// rows are all heads and literals of a program.
func rows(l []api.Clause) [][]api.Cell {
	var all [][]api.Cell
	for _, c := range l {
		all = append(all, c.Head)
		for _, x := range c.Body {
			all = append(all, x.T)
		}
	}
	return all
}

func spoil(t []api.Cell) {
	for i := range t {
		t[i] = api.Cell{Kind: -1}
	}
}
