package read_test

import (
	"math/rand/v2"
	"slices"
	"strconv"
	"strings"
	"testing"

	"sorrel/api"
	"sorrel/read"
	"sorrel/term"
)

func variable(n int) []api.Cell { return []api.Cell{{Kind: api.Var, N: n}} }

func number(n int) []api.Cell { return []api.Cell{{Kind: api.Int, N: n}} }

func fun(name string, args ...[]api.Cell) []api.Cell {
	return append([]api.Cell{{Kind: api.Fun, Name: name, N: len(args)}}, slices.Concat(args...)...)
}

// list is a list's Funs, as far as a tail.
func list(tail []api.Cell, l ...[]api.Cell) []api.Cell {
	for i := len(l) - 1; i >= 0; i-- {
		tail = fun(".", l[i], tail)
	}
	return tail
}

func is(t []api.Cell) api.Lit { return api.Lit{T: t} }

func not(t []api.Cell) api.Lit { return api.Lit{Neg: true, T: t} }

func clause(head []api.Cell, body ...api.Lit) api.Clause { return api.Clause{Head: head, Body: body} }

func sameClause(a api.Clause, b api.Clause) bool {
	return slices.Equal(a.Head, b.Head) && slices.EqualFunc(a.Body, b.Body, func(x api.Lit, y api.Lit) bool { return x.Neg == y.Neg && slices.Equal(x.T, y.T) })
}

func sameProgram(a []api.Clause, b []api.Clause) bool { return slices.EqualFunc(a, b, sameClause) }

// want asks for a text's term, and its variables' letters.
func want(t *testing.T, s string, x []api.Cell, names ...string) {
	t.Helper()
	if got, l, at, e := read.Term(s); !slices.Equal(got, x) || !slices.Equal(l, names) || at != 0 || e != api.OK {
		t.Fatalf("of %.90q told %v %q %d %v, wanted %v %q", s, got, l, at, e, x, names)
	}
}

// wrong asks for an error of a term's text, its place, and nothing beside them.
func wrong(t *testing.T, s string, at int, e api.Errno) {
	t.Helper()
	if x, l, gotAt, got := read.Term(s); x != nil || l != nil || gotAt != at || got != e {
		t.Fatalf("of %.90q told %v %q %d %v, wanted %d %v", s, x, l, gotAt, got, at, e)
	}
}

// wantProgram asks for a text's clauses.
func wantProgram(t *testing.T, s string, l ...api.Clause) {
	t.Helper()
	if got, at, e := read.Program(s); !sameProgram(got, l) || at != 0 || e != api.OK {
		t.Fatalf("of %.90q told %v %d %v, wanted %v", s, got, at, e, l)
	}
}

// wrongProgram asks for an error of a program's text, its place, and nothing beside them.
func wrongProgram(t *testing.T, s string, at int, e api.Errno) {
	t.Helper()
	if l, gotAt, got := read.Program(s); l != nil || gotAt != at || got != e {
		t.Fatalf("of %.90q told %v %d %v, wanted %d %v", s, l, gotAt, got, at, e)
	}
}

// wrongBoth asks for an error of both.
func wrongBoth(t *testing.T, s string, at int, e api.Errno) {
	t.Helper()
	wrong(t, s, at, e)
	wrongProgram(t, s, at, e)
}

// wide is the text of a term with as many variables, none of them twice, and few cells beside them.
func wide(many int) string {
	if many <= api.MaxArity {
		return "w(" + strings.TrimSuffix(strings.Repeat("_,", many), ",") + ")"
	}
	return "w(" + strings.Repeat("_,", api.MaxArity-1) + wide(many-api.MaxArity+1) + ")"
}

// nest is the text of a term with as many Funs of one argument around that one.
func nest(times int, s string) string {
	return strings.Repeat("s(", times) + s + strings.Repeat(")", times)
}

const blanks = " \t\n\r"

// source makes terms and texts from a fixed seed.
type source struct{ *rand.Rand }

func seeded(n uint64) source { return source{rand.New(rand.NewPCG(n, 53))} }

func (from source) just(l ...string) string { return l[from.IntN(len(l))] }

// term is one with all that has a way of its own to be written.
func (from source) term(deep int) []api.Cell {
	switch kind := from.IntN(5 + 3*deep); {
	case kind < 2:
		return variable(from.IntN(7))
	case kind < 3:
		return number(from.IntN(9) - 4)
	case kind < 4:
		return fun(from.just("[]", "-", "."))
	case kind < 5 || deep == 0:
		return fun(from.just("a", "b1_", "it is", "X", "=", "[]"))
	case kind < 8:
		return fun(from.just("=", "<", "+", "-", "*", "."), from.term(deep-1), from.term(deep-1))
	case kind < 9:
		return fun(from.just("-", "-", "+", `\+`), from.term(deep-1))
	case kind < 10:
		l := make([][]api.Cell, 1+from.IntN(3))
		for i := range l {
			l[i] = from.term(deep - 1)
		}
		return list(fun("[]"), l...)
	}
	args := make([][]api.Cell, 1+from.IntN(api.MaxArity))
	for i := range args {
		args[i] = from.term(from.IntN(deep))
	}
	return fun(from.just("f", "g", "[]", "-", "*", ".", ":-", "A b"), args...)
}

// right is such a term of no more cells than it may have.
func (from source) right() []api.Cell {
	for {
		if t := from.term(from.IntN(5)); len(t) <= api.MaxCells {
			return t
		}
	}
}

// atom is such a term that begins with a Fun.
func (from source) atom() []api.Cell {
	for {
		if t := from.right(); t[0].Kind == api.Fun {
			return t
		}
	}
}

// writer writes terms, in all ways that the chapter leaves open, by chance.
type writer struct {
	source
	letters map[int]string // of each variable
	times   map[int]int    // how often each variable stands there
	parts   []string
	plain   bool // there are no parentheses but where they must be
}

// writer is one for some terms.
func (from source) writer(l ...[]api.Cell) *writer {
	w := &writer{source: from, letters: map[int]string{}, times: map[int]int{}}
	for _, c := range slices.Concat(l...) {
		if c.Kind == api.Var {
			w.times[c.N]++
		}
	}
	return w
}

func (w *writer) add(l ...string) { w.parts = append(w.parts, l...) }

// ranks are those of the operator that a Fun may be written as; 0, if there is none.
func ranks(c api.Cell) (int, int, int) {
	if c.Kind != api.Fun || c.N != 1 && c.N != 2 {
		return 0, 0, 0
	}
	return read.Op(c.Name, c.N == 1)
}

// term adds a term, where one up to that rank may stand.
func (w *writer) term(t []api.Cell, up int) {
	rank, left, right := ranks(t[0])
	asOperator := rank > 0 && (w.plain || w.IntN(5) > 0)
	if asOperator && rank > up || !w.plain && w.IntN(12) == 0 {
		w.add("(")
		w.term(t, 700)
		w.add(")")
		return
	}
	parts := term.Parts(t)
	switch {
	case asOperator && len(parts) == 2:
		w.term(parts[0], left)
		w.add(t[0].Name)
		w.term(parts[1], right)
	case asOperator:
		w.add("-")
		at := len(w.parts)
		w.term(parts[0], right)
		if strings.IndexByte("0123456789", w.parts[at][0]) >= 0 {
			// A sign that stood directly ahead of a number would be its own.
			w.parts[at] = w.just(" ", "\n", "% \n") + w.parts[at]
		}
	case t[0].Kind == api.Int:
		w.number(t[0].N)
	case t[0].Kind == api.Var:
		w.add(w.letter(t[0].N))
	case (t[0].Name == "[]" && t[0].N == 0 || t[0].Name == "." && t[0].N == 2) && w.IntN(5) > 0:
		w.list(t)
	default:
		w.name(t[0].Name)
		w.args(parts)
	}
}

func (w *writer) number(n int) {
	sign := ""
	if n < 0 {
		sign, n = "-", -n
	}
	w.add(sign + w.just("", "", "0", "00") + strconv.Itoa(n))
}

func (w *writer) letter(n int) string {
	s := w.letters[n]
	if s == "" {
		s = w.just("X", "_", "Y_", "_x1") + strconv.Itoa(n)
		if w.times[n] == 1 && w.IntN(2) == 0 {
			s = "_"
		}
		w.letters[n] = s
	}
	return s
}

func (w *writer) name(s string) {
	if s[0] < 'a' || s[0] > 'z' || strings.IndexFunc(s, func(c rune) bool { return !letter(byte(c)) }) >= 0 || w.IntN(4) == 0 {
		s = "'" + s + "'"
	}
	w.add(s)
}

func (w *writer) args(l [][]api.Cell) {
	for i, t := range l {
		if i == 0 {
			w.add("(")
		} else {
			w.add(",")
		}
		w.term(t, 700)
	}
	if len(l) > 0 {
		w.add(")")
	}
}

// list adds a list with as many of its terms ahead of a stroke as may be, or fewer of them.
func (w *writer) list(t []api.Cell) {
	w.add("[")
	for i := 0; ; i++ {
		if t[0].Name == "[]" && t[0].N == 0 && t[0].Kind == api.Fun && (i == 0 || w.IntN(5) > 0) {
			break
		}
		if i > 0 && (t[0].Kind != api.Fun || t[0].Name != "." || t[0].N != 2 || w.IntN(5) == 0) {
			w.add("|")
			w.term(t, 700)
			break
		}
		if i > 0 {
			w.add(",")
		}
		parts := term.Parts(t)
		w.term(parts[0], 700)
		t = parts[1]
	}
	w.add("]")
}

// text is all that was added, with a blank where one must stand, or may.
func (w *writer) text() string {
	var s strings.Builder
	last := byte(' ')
	for _, p := range w.parts {
		if joins(last, p[0]) || w.IntN(4) == 0 {
			s.WriteString(w.just(" ", "\t", "\n", "\r", " % ( [ 1\n"))
		}
		s.WriteString(p)
		last = p[len(p)-1]
	}
	return s.String()
}

// joins says whether two bytes, one behind the other, would be of one token.
func joins(a byte, b byte) bool {
	return letter(a) && letter(b) || sign(a) && sign(b)
}

func letter(c byte) bool {
	return 'a' <= c && c <= 'z' || 'A' <= c && c <= 'Z' || '0' <= c && c <= '9' || c == '_'
}

func sign(c byte) bool { return strings.IndexByte(`+-*/\^<>=~:?@#&$.`, c) >= 0 }

// write is a text of a term, and its variables' letters, in order.
func (from source) write(t []api.Cell, plain bool) (string, []string) {
	w := from.writer(t)
	w.plain = plain
	w.term(t, 700)
	var names []string
	for _, n := range term.Vars(t) {
		names = append(names, w.letters[n])
	}
	return w.text(), names
}

// clause is one, and its text.
func (from source) clause() (api.Clause, string) {
	c := clause(from.atom())
	all := c.Head
	for range from.IntN(4) {
		l := api.Lit{Neg: from.IntN(3) == 0, T: from.atom()}
		c.Body = append(c.Body, l)
		all = slices.Concat(all, l.T)
	}
	w := from.writer(all)
	w.term(c.Head, 700)
	for i, l := range c.Body {
		w.add([]string{":-", ",", ","}[i])
		if l.Neg {
			w.add(`\+`)
		}
		w.term(l.T, 700)
	}
	w.add(". ")
	return renamed(c), w.text()
}

// renamed is a clause whose variables are numbered as they come.
func renamed(c api.Clause) api.Clause {
	met := map[int]int{}
	row := func(t []api.Cell) []api.Cell {
		t = slices.Clone(t)
		for i, x := range t {
			if x.Kind != api.Var {
				continue
			}
			if _, is := met[x.N]; !is {
				met[x.N] = len(met)
			}
			t[i].N = met[x.N]
		}
		return t
	}
	to := api.Clause{Head: row(c.Head)}
	for _, l := range c.Body {
		to.Body = append(to.Body, api.Lit{Neg: l.Neg, T: row(l.T)})
	}
	return to
}

// program is up to so many clauses, and their text.
func (from source) program(many int) ([]api.Clause, string) {
	var l []api.Clause
	var s strings.Builder
	for range from.IntN(many + 1) {
		c, text := from.clause()
		l = append(l, c)
		s.WriteString(text + from.just("", "\n", " % ) .\n"))
	}
	return l, s.String()
}

// pieces are tokens' texts.
func pieces() []string {
	return []string{"a", "X", "1", "-", "-1", "=", "+", "*", "(", ")", "[", "]", "|", ",", ". ", ":-", `\+`, "_"}
}

// soup is a text of some pieces, whatever comes of them.
func (from source) soup() string {
	var s strings.Builder
	for range from.IntN(16) {
		s.WriteString(from.just(pieces()...) + from.just("", " ", " "))
	}
	return s.String()
}

// broken is a text with a piece more, or a few bytes less, or others.
func (from source) broken(s string) string {
	at := from.IntN(len(s) + 1)
	to := min(len(s), at+from.IntN(3))
	switch from.IntN(4) {
	case 0:
		return s[:at] + s[to:]
	case 1:
		return s[:at] + from.just(pieces()...) + s[to:]
	case 2:
		return s[:at] + " " + from.just(pieces()...) + " " + s[at:]
	}
	return s[:at]
}

// operations are a text of operators, and what stands between them; some of it may not stand so.
func (from source) operations(deep int) string {
	var s strings.Builder
	for i := range 1 + from.IntN(5) {
		if i > 0 {
			s.WriteString(from.just("=", "<", "+", "-", "*", "- ") + from.just("", " "))
		}
		if deep > 0 && from.IntN(4) == 0 {
			s.WriteString(from.just("(", "- (", "f(", "[", "[a|") + from.operations(deep-1) + from.just(")", ")", "]"))
		} else {
			s.WriteString(from.just("a", "X", "1", "-1", "- 1", "-X") + from.just("", " "))
		}
	}
	return s.String()
}

// any is a text of which nothing is sure.
func (from source) any() string {
	var s string
	switch from.IntN(5) {
	case 0:
		return from.soup()
	case 1:
		s, _ = from.write(from.right(), false)
	case 2:
		_, s = from.program(3)
	case 3:
		_, s = from.clause()
	case 4:
		s = from.operations(2) + from.just("", ".")
	}
	for range from.IntN(3) {
		s = from.broken(s)
	}
	if from.IntN(20) == 0 {
		s += from.just("{", "'", "\x00", "\xff", "thirteen_byte", "2147483648")
	}
	return s
}
