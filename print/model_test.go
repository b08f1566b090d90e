package print_test

import (
	"fmt"
	"regexp"
	"slices"
	"strings"
	"testing"

	"sorrel/api"
	"sorrel/print"
)

// In this file texts are made a second time, as the chapter words them, of terms that are taken apart into trees.

var simple = regexp.MustCompile(`\A[a-z][A-Za-z0-9_]*\z`)

func letters(n int) string {
	s := "ABCDEFGHIJKLMNOPQRSTUVWXYZ"[n%26 : n%26+1]
	if n < 26 {
		return s
	}
	return s + fmt.Sprint(n/26)
}

func lettersOf(name string) string {
	if simple.MatchString(name) {
		return name
	}
	return "'" + name + "'"
}

// tree is a term that was taken apart.
type tree struct {
	cell api.Cell
	args []tree
}

// grow is the tree of a row's first term, and what stands behind it.
func grow(t []api.Cell) (tree, []api.Cell) {
	to, rest := tree{cell: t[0]}, t[1:]
	if t[0].Kind != api.Fun {
		return to, rest
	}
	for range t[0].N {
		var arg tree
		arg, rest = grow(rest)
		to.args = append(to.args, arg)
	}
	return to, rest
}

func (t tree) is(name string, n int) bool {
	return t.cell.Kind == api.Fun && t.cell.Name == name && len(t.args) == n
}

func (t tree) text() string {
	switch t.cell.Kind {
	case api.Var:
		return letters(t.cell.N)
	case api.Int:
		return fmt.Sprintf("%d", t.cell.N)
	}
	for _, name := range []string{"=", "<", "+", "-", "*"} {
		if t.is(name, 2) {
			return "(" + t.args[0].text() + " " + name + " " + t.args[1].text() + ")"
		}
	}
	switch {
	case t.is("-", 1):
		return "-(" + t.args[0].text() + ")"
	case t.is("[]", 0):
		return "[]"
	case t.is(".", 2):
		return "[" + t.args[0].text() + t.args[1].behind() + "]"
	}
	var l []string
	for _, arg := range t.args {
		l = append(l, arg.text())
	}
	if l == nil {
		return lettersOf(t.cell.Name)
	}
	return lettersOf(t.cell.Name) + "(" + strings.Join(l, ",") + ")"
}

// behind is what stands behind an item of a list, whose second argument t is.
func (t tree) behind() string {
	if t.is(".", 2) {
		return "," + t.args[0].text() + t.args[1].behind()
	}
	if t.is("[]", 0) {
		return ""
	}
	return "|" + t.text()
}

func textOf(x []api.Cell) string {
	t, _ := grow(x)
	return t.text()
}

func textOfClause(c api.Clause) string {
	var l []string
	for _, x := range c.Body {
		s := textOf(x.T)
		if x.Neg {
			s = `\+ ` + s
		}
		l = append(l, s)
	}
	if len(l) == 0 {
		return textOf(c.Head) + "."
	}
	return textOf(c.Head) + " :- " + strings.Join(l, ", ") + "."
}

// P6.1: terms' texts are those that the chapter words.
func TestTermModel(t *testing.T) {
	from := seeded(1)
	var kinds [8]int
	for range 40000 {
		x := from.right()
		s := textOf(x)
		want(t, x, s)
		for i, piece := range []string{"-(", " - ", "[]", "[", "|", "'", "'[]'(", "(("} {
			if strings.Contains(s, piece) {
				kinds[i]++
			}
		}
	}
	if slices.Min(kinds[:]) < 500 {
		t.Error("too few to tell:", kinds)
	}
}

// P6.1: names' letters are those that the chapter words.
func TestQuoteModel(t *testing.T) {
	from := seeded(2)
	quoted := 0
	for range 40000 {
		name := from.name()
		s := lettersOf(name)
		if got := print.Quote(name); got != s {
			t.Fatalf("of %q told %q, wanted %q", name, got, s)
		}
		if s != name {
			quoted++
		}
	}
	if quoted < 5000 || quoted > 35000 {
		t.Error("too few to tell:", quoted)
	}
}

// P6.1: clauses' texts, and programs', are those that the chapter words.
func TestClauseModel(t *testing.T) {
	from := seeded(3)
	for range 4000 {
		l := from.program(6)
		all := ""
		for _, c := range l {
			wantClause(t, c, textOfClause(c))
			all += textOfClause(c) + "\n"
		}
		if got := print.Program(l); got != all {
			t.Fatalf("of %v told %q, wanted %q", l, got, all)
		}
	}
}
