package read_test

import (
	"slices"
	"strings"
	"testing"

	"sorrel/api"
	"sorrel/lex"
	"sorrel/term"
)

// model reads by a level for each kind of operators, in the place of ranks, and goes on behind what is wrong with no tokens left.
type model struct {
	tokens []api.Token
	length int
	names  []string
	place  int
	e      api.Errno
}

func modelled(s string) *model {
	tokens, place, e := lex.Lex(s)
	return &model{tokens: tokens, length: len(s), place: place, e: e}
}

func (m *model) here() api.Token {
	if len(m.tokens) == 0 {
		return api.Token{At: m.length}
	}
	return m.tokens[0]
}

func (m *model) is(kind int, texts string) bool {
	k := m.here()
	return k.Kind == kind && slices.Contains(strings.Fields(texts), k.Text)
}

func (m *model) pass() api.Token {
	k := m.here()
	if len(m.tokens) > 0 {
		m.tokens = m.tokens[1:]
	}
	return k
}

func (m *model) passIf(kind int, text string) bool {
	is := m.is(kind, text)
	if is {
		m.pass()
	}
	return is
}

func (m *model) fail(at int, e api.Errno) {
	if m.e == api.OK {
		m.place, m.e = at, e
	}
	m.tokens, m.length = nil, m.place
}

// lacks is that what must stand here does not.
func (m *model) lacks() {
	if k := m.here(); k.Kind == 0 || k.Kind == api.End {
		m.fail(k.At, api.ErrEnd)
	} else {
		m.fail(k.At, api.ErrToken)
	}
}

func (m *model) must(kind int, text string) {
	if !m.passIf(kind, text) {
		m.lacks()
	}
}

// equal is one = or < at most, between sums.
func (m *model) equal() []api.Cell {
	left := m.sum()
	if m.is(api.Sym, "= <") {
		name := m.pass().Text
		left = fun(name, left, m.sum())
	}
	if m.is(api.Sym, "= <") {
		m.fail(m.here().At, api.ErrRank)
	}
	return left
}

func (m *model) sum() []api.Cell {
	left := m.product()
	for m.is(api.Sym, "+ -") {
		name := m.pass().Text
		left = fun(name, left, m.product())
	}
	return left
}

func (m *model) product() []api.Cell {
	left := m.signed()
	for m.is(api.Sym, "*") {
		m.pass()
		left = fun("*", left, m.signed())
	}
	return left
}

func (m *model) signed() []api.Cell {
	if !m.is(api.Sym, "-") {
		return m.simple()
	}
	at := m.pass().At
	if k := m.here(); k.Kind == api.Number && k.At-at == 1 {
		return number(-m.pass().N)
	}
	return fun("-", m.signed())
}

func (m *model) simple() []api.Cell {
	switch k := m.here(); {
	case k.Kind == api.Number:
		return number(m.pass().N)
	case k.Kind == api.VarName:
		m.pass()
		return variable(m.number(k.Text))
	case k.Kind == api.Name:
		m.pass()
		if !m.passIf(api.Punct, "(") {
			return fun(k.Text)
		}
		l := m.some()
		m.must(api.Punct, ")")
		return fun(k.Text, l...)
	case m.passIf(api.Punct, "("):
		t := m.equal()
		m.must(api.Punct, ")")
		return t
	case m.passIf(api.Punct, "["):
		if m.passIf(api.Punct, "]") {
			return fun("[]")
		}
		l, tail := m.some(), fun("[]")
		if m.passIf(api.Punct, "|") {
			tail = m.equal()
		}
		m.must(api.Punct, "]")
		return list(tail, l...)
	}
	m.lacks()
	return number(0)
}

func (m *model) some() [][]api.Cell {
	l := [][]api.Cell{m.equal()}
	for m.passIf(api.Punct, ",") {
		l = append(l, m.equal())
	}
	return l
}

func (m *model) number(name string) int {
	at := slices.Index(m.names, name)
	if at < 0 || name == "_" {
		at = len(m.names)
		m.names = append(m.names, name)
	}
	return at
}

func (m *model) whole(asAtom bool) []api.Cell {
	at := m.here().At
	t := m.equal()
	switch {
	case m.e != api.OK:
	case !term.Right(t):
		m.fail(at, api.ErrBig)
	case asAtom && t[0].Kind != api.Fun:
		m.fail(at, api.ErrToken)
	}
	return t
}

func (m *model) term() []api.Cell {
	t := m.whole(false)
	m.passIf(api.End, ".")
	if m.here().Kind != 0 {
		m.fail(m.here().At, api.ErrToken)
	}
	return t
}

func (m *model) program() []api.Clause {
	var l []api.Clause
	for m.e == api.OK && m.here().Kind != 0 {
		if len(l) == api.MaxClauses {
			m.fail(m.here().At, api.ErrBig)
			break
		}
		m.names = nil
		c := clause(m.whole(true))
		for more := m.passIf(api.Sym, ":-"); more; more = m.passIf(api.Punct, ",") {
			if len(c.Body) == api.MaxBody {
				m.fail(m.here().At, api.ErrBig)
				break
			}
			negative := m.passIf(api.Sym, `\+`)
			c.Body = append(c.Body, api.Lit{Neg: negative, T: m.whole(true)})
		}
		m.must(api.End, ".")
		l = append(l, c)
	}
	return l
}

// asModelled asks for what the model tells of a text, of both, and tells both errors.
func asModelled(t *testing.T, s string) (api.Errno, api.Errno) {
	t.Helper()
	m := modelled(s)
	if m.e != api.OK {
		wrongBoth(t, s, m.place, m.e)
		return m.e, m.e
	}
	x := m.term()
	if m.e != api.OK {
		wrong(t, s, m.place, m.e)
	} else {
		want(t, s, x, m.names...)
	}
	n := modelled(s)
	l := n.program()
	if n.e != api.OK {
		wrongProgram(t, s, n.place, n.e)
	} else {
		wantProgram(t, s, l...)
	}
	return m.e, n.e
}

// P5.1: all texts of up to four tokens are read as the chapter's words say.
func TestShortTexts(t *testing.T) {
	for many := range 5 {
		tokens(many, " ", "", func(s string) { asModelled(t, s) })
	}
	for many := range 4 {
		tokens(many, "", "", func(s string) { asModelled(t, s) })
	}
}

// tokens hands on all texts of so many tokens, with that between, behind s.
func tokens(many int, between string, s string, each func(s string)) {
	if many == 0 {
		each(s)
		return
	}
	for _, p := range pieces() {
		tokens(many-1, between, s+between+p, each)
	}
}

// P5.1: texts of any tokens, and texts that were broken, are read as the chapter's words say, or sent back so.
func TestAnyTexts(t *testing.T) {
	from := seeded(1)
	terms, programs := map[api.Errno]int{}, map[api.Errno]int{}
	for range 40000 {
		e, f := asModelled(t, from.any())
		terms[e]++
		programs[f]++
	}
	for _, l := range []map[api.Errno]int{terms, programs} {
		for _, e := range []api.Errno{api.OK, api.ErrToken, api.ErrEnd, api.ErrRank, api.ErrBig, api.ErrChar, api.ErrQuote} {
			if l[e] < 100 {
				t.Error("too few to tell:", e, l)
			}
		}
	}
}
