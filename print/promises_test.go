package print_test

import (
	"slices"
	"strings"
	"testing"

	"sorrel/api"
	"sorrel/print"
	"sorrel/read"
	"sorrel/term"
)

// P6.2: a term's text is read as the term, numbered, and by the letters that were written.
func TestTermBack(t *testing.T) {
	from := seeded(4)
	for range 30000 {
		back(t, from.right())
	}
}

// P6.2: so is that of each small term: all Funs of up to two arguments, over all that needs care.
func TestSmallTermsBack(t *testing.T) {
	l := [][]api.Cell{variable(0), variable(26), number(1), number(-1), fun("a"), fun("[]"), fun("-"), fun("."), fun("A")}
	names := []string{"=", "<", "+", "-", "*", ".", "[]", ":-", `\+`, "f", "X"}
	for range 2 {
		all := slices.Clone(l)
		step := 1 + len(l)/14
		for _, name := range names {
			for i, x := range l {
				all = append(all, fun(name, x))
				for j := i % step; j < len(l); j += step {
					all = append(all, fun(name, x, l[j]))
				}
				all = append(all, fun(name, x, l[(i+1)%len(l)], x))
			}
		}
		l = all
	}
	if len(l) < 50000 {
		t.Error("too few to tell:", len(l))
	}
	texts := map[string]int{}
	for i, x := range l {
		back(t, x)
		s := print.Term(x)
		if j, is := texts[s]; is && !slices.Equal(x, l[j]) {
			t.Fatalf("%v and %v are both %q", x, l[j], s)
		}
		texts[s] = i
	}
}

// P6.2: so is every name that a right term may have, with none, one, two and more arguments.
func TestNamesBack(t *testing.T) {
	from := seeded(5)
	for range 10000 {
		name := from.name()
		a, b := number(-1), variable(2)
		for _, x := range [][]api.Cell{fun(name), fun(name, a), fun(name, a, b), fun(name, b, a, fun(name))} {
			back(t, x)
			back(t, fun("-", x, fun("-", x)))
		}
	}
}

// P6.2: a clause's text, and a program's, are read likewise.
func TestProgramBack(t *testing.T) {
	from := seeded(6)
	long := 0
	for range 3000 {
		l := from.program(6)
		if len(print.Program(l)) > api.MaxText {
			long++
			continue
		}
		backProgram(t, l)
		for _, c := range l {
			got, at, e := read.Program(print.Clause(c))
			if e != api.OK || at != 0 || !sameProgram(got, []api.Clause{numbered(c)}) {
				t.Fatalf("%v, as %q, was read as %v %d %v", c, print.Clause(c), got, at, e)
			}
		}
	}
	if long > 1500 {
		t.Error("too few to tell:", long)
	}
}

// P6.2: so is a program of as many clauses, each of as many literals, as there may be.
func TestGreatestProgramBack(t *testing.T) {
	body := slices.Repeat([]api.Lit{not(fun("q", variable(999), number(-api.MaxInt)))}, api.MaxBody)
	l := slices.Repeat([]api.Clause{clause(fun("-", fun("p", variable(3)), variable(999)), body...)}, api.MaxClauses)
	if n := len(print.Program(l)); n < api.MaxText/2 || n > api.MaxText {
		t.Error("so long:", n)
	}
	backProgram(t, l)
}

// P6.2: what is read of a term's text, written and read again, stays as it is.
func TestBackAgain(t *testing.T) {
	from := seeded(7)
	for range 10000 {
		x := term.Number(from.right())
		got, _, _, _ := read.Term(print.Term(x))
		want(t, got, print.Term(x))
	}
}

// P6.3: unlike terms have unlike texts: ones that differ in a cell, and any others.
func TestUnlike(t *testing.T) {
	from := seeded(8)
	met := map[string][]api.Cell{}
	changed := 0
	for range 30000 {
		x := from.right()
		l := [][]api.Cell{x}
		if y := from.changed(x); term.Right(y) && !slices.Equal(x, y) {
			changed++
			l = append(l, y)
		}
		for _, x := range l {
			s := print.Term(x)
			if y := met[s]; y != nil && !slices.Equal(x, y) {
				t.Fatalf("%v and %v are both %q", x, y, s)
			}
			met[s] = x
		}
	}
	if changed < 5000 || len(met) < 20000 {
		t.Error("too few to tell:", changed, len(met))
	}
}

// changed is a row with a cell that may be another one.
func (from source) changed(x []api.Cell) []api.Cell {
	y := slices.Clone(x)
	c := &y[from.IntN(len(y))]
	switch from.IntN(4) {
	case 0:
		c.N += from.IntN(53) - 26
	case 1:
		*c = from.term(0)[0]
	case 2:
		c.Name = from.name()
	case 3:
		return slices.Concat(x[:len(x)-1], from.term(1))
	}
	return y
}

// P6.3: variables have unlike letters, and names have.
func TestUnlikeLetters(t *testing.T) {
	met := map[string]int{}
	for n := range api.MaxVar + 1 {
		s := print.VarName(n)
		if _, is := met[s]; is {
			t.Fatal(n, met[s], s)
		}
		met[s] = n
	}
	from := seeded(9)
	names := map[string]string{}
	for range 30000 {
		name := from.name()
		s := print.Quote(name)
		if other, is := names[s]; is && other != name {
			t.Fatal(name, other, s)
		}
		names[s] = name
	}
}

// signs asks that a text is of bytes 32 to 126 alone.
func signs(t *testing.T, s string) {
	t.Helper()
	for i := range len(s) {
		if s[i] < 32 || s[i] > 126 {
			t.Fatalf("%q has a byte %d", s, s[i])
		}
	}
}

// P6.4: texts are of bytes 32 to 126 alone; a program has a line for each clause.
func TestSigns(t *testing.T) {
	from := seeded(10)
	for range 10000 {
		signs(t, print.Term(from.right()))
		signs(t, print.Quote(from.name()))
		signs(t, print.VarName(from.IntN(api.MaxVar+1)))
	}
	for range 2000 {
		l := from.program(6)
		lines := strings.SplitAfter(print.Program(l), "\n")
		if len(lines) != len(l)+1 || lines[len(l)] != "" {
			t.Fatal(len(l), lines)
		}
		for i, c := range l {
			signs(t, print.Clause(c))
			if lines[i] != print.Clause(c)+"\n" {
				t.Fatalf("%q is no line of %v", lines[i], c)
			}
		}
	}
}

// P1: whatever is handed in, the calls end, and none panics.
func TestAnything(t *testing.T) {
	from := seeded(11)
	none := 0
	for range 30000 {
		x, y := from.wild(), from.changed(from.right())
		c := clause(x, is(y), not(from.right()), not(x))
		for _, z := range [][]api.Cell{x, y} {
			if print.Term(z) == "" {
				none++
			}
		}
		print.Clause(c)
		print.Program([]api.Clause{c, {}, clause(y)})
	}
	if none < 5000 || none > 55000 {
		t.Error("too few to tell:", none)
	}
	for _, name := range []string{"", "'", "it's", "\x00", "\xff\xfe", "\n", strings.Repeat("a", 100000)} {
		print.Quote(name)
	}
	for _, n := range []int{-1, -26, -27, -1 << 63, 1000, 1<<63 - 1} {
		print.VarName(n)
	}
	nested := slices.Repeat([]api.Cell{{Kind: api.Fun, Name: "-", N: 1}}, 1<<20)
	print.Term(nested)
	print.Term(append(nested, number(1)...))
}

// P3: what is handed in stays as it is, and tells the same again.
func TestUnchanged(t *testing.T) {
	from := seeded(12)
	for range 2000 {
		l := from.program(4)
		was := copied(l)
		s := print.Program(l)
		if !sameProgram(l, was) || print.Program(l) != s || print.Program(was) != s {
			t.Fatal(l, was)
		}
		x := from.right()
		before := slices.Clone(x)
		if s := print.Term(x); print.Term(x) != s || !slices.Equal(x, before) {
			t.Fatal(x, before)
		}
	}
}

// P3: calls that run beside each other tell what they tell alone.
func TestBesideEachOther(t *testing.T) {
	l := seeded(13).program(6)
	s := print.Program(l)
	told := make(chan string)
	for range 8 {
		go func() { told <- print.Program(l) }()
	}
	for range 8 {
		if got := <-told; got != s {
			t.Error(got)
		}
	}
}
