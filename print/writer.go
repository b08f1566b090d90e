package print

import (
	"iter"
	"strconv"
	"strings"

	"sorrel/api"
	"sorrel/term"
)

// writer makes one text, by the builder that it embeds.
type writer struct {
	strings.Builder
}

func (w *writer) clause(c api.Clause) {
	w.row(c.Head)
	if len(c.Body) > 0 {
		w.WriteString(" :- ")
		w.join(", ", texts(c.Body, (*writer).literal))
	}
	w.WriteByte('.')
}

func (w *writer) literal(l api.Lit) {
	if l.Neg {
		w.WriteString(`\+ `)
	}
	w.row(l.T)
}

// row writes a term, if the row is one.
func (w *writer) row(t []api.Cell) {
	if term.Right(t) {
		w.term(t)
	}
}

// term writes a term that is right.
func (w *writer) term(t []api.Cell) {
	switch c := t[0]; {
	case c.Kind == api.Var:
		w.variable(c.N)
	case c.Kind == api.Int:
		w.WriteString(strconv.Itoa(c.N))
	case infix(c):
		w.enclosed("(", term.Parts(t), " "+c.Name+" ", ")")
	case c == fun("-", 1):
		w.enclosed("-(", term.Parts(t), "", ")")
	case c == fun("[]", 0):
		w.WriteString("[]")
	case c == fun(".", 2):
		w.list(t)
	default:
		w.plain(t)
	}
}

// plain writes a term by its name, and its arguments behind it.
func (w *writer) plain(t []api.Cell) {
	w.name(t[0].Name)
	if t[0].N > 0 {
		w.enclosed("(", term.Parts(t), ",", ")")
	}
}

// list writes a term that is a list's, with all items that it has, and what stands behind the last one.
func (w *writer) list(t []api.Cell) {
	var items [][]api.Cell
	for t[0] == fun(".", 2) {
		parts := term.Parts(t)
		items, t = append(items, parts[0]), parts[1]
	}
	w.enclosed("[", items, ",", "")
	if t[0] != fun("[]", 0) {
		w.WriteByte('|')
		w.term(t)
	}
	w.WriteByte(']')
}

// enclosed writes right terms, with a sign between any two, and what stands ahead and behind.
func (w *writer) enclosed(ahead string, l [][]api.Cell, sign string, behind string) {
	w.WriteString(ahead)
	w.join(sign, texts(l, (*writer).term))
	w.WriteString(behind)
}

// join writes some texts, with a sign between any two.
func (w *writer) join(sign string, l iter.Seq[string]) {
	for s := range between(sign, l) {
		w.WriteString(s)
	}
}

func (w *writer) name(name string) {
	if bare(name) {
		w.WriteString(name)
		return
	}
	w.WriteByte('\'')
	w.WriteString(name)
	w.WriteByte('\'')
}

// alphabet is how many letters there are from A to Z.
const alphabet = 26

func (w *writer) variable(n int) {
	if n < 0 {
		// Its rest is no letter's.
		return
	}
	w.WriteByte(byte('A' + n%alphabet))
	if n >= alphabet {
		w.WriteString(strconv.Itoa(n / alphabet))
	}
}

// between hands on some texts, and a sign between any two.
func between(sign string, l iter.Seq[string]) iter.Seq[string] {
	return func(yield func(string) bool) {
		begun := false
		for s := range l {
			if begun && !yield(sign) || !yield(s) {
				return
			}
			begun = true
		}
	}
}

// texts hands on a text of each, written by a writer of its own.
func texts[T any](l []T, write func(w *writer, one T)) iter.Seq[string] {
	return func(yield func(string) bool) {
		for _, one := range l {
			var w writer
			write(&w, one)
			if !yield(w.String()) {
				return
			}
		}
	}
}

func fun(name string, n int) api.Cell {
	return api.Cell{Kind: api.Fun, Name: name, N: n}
}

// infix says whether a Fun's name stands between its arguments.
func infix(c api.Cell) bool {
	switch c.Name {
	case "=", "<", "+", "-", "*":
		return c.N == 2
	}
	return false
}

// bare says whether a name can stand without quotes.
func bare(name string) bool {
	if name == "" || !small(name[0]) {
		return false
	}
	for i := range len(name) {
		if !letter(name[i]) {
			return false
		}
	}
	return true
}

func small(c byte) bool { return 'a' <= c && c <= 'z' }

func letter(c byte) bool {
	return small(c) || 'A' <= c && c <= 'Z' || '0' <= c && c <= '9' || c == '_'
}
