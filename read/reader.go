package read

import (
	"sorrel/api"
	"sorrel/lex"
	"sorrel/term"
)

// reader goes through a text's tokens, from left to right. What it does not find where it must stand it panics with.
type reader struct {
	tokens  []api.Token
	at      int // of the token that comes next
	behind  api.Token
	between map[string][3]int
	ahead   map[string][3]int
	names   []string // letters of the variables that were met
	met     map[string]int
}

func begin(s string) *reader {
	tokens, at, e := lex.Lex(s)
	if e != api.OK {
		panic(wrong{at, e})
	}
	// Behind the last token another one stands, of no kind, so that there always is one to look at.
	behind := api.Token{At: len(s)}
	return &reader{tokens: tokens, behind: behind, between: between(), ahead: ahead(), met: map[string]int{}}
}

// now is the token that comes next.
func (r *reader) now() api.Token {
	if r.done() {
		return r.behind
	}
	return r.tokens[r.at]
}

func (r *reader) done() bool { return r.at == len(r.tokens) }

// next is the token that comes next; it is passed.
func (r *reader) next() api.Token {
	k := r.now()
	r.at++
	return k
}

// take passes the next token, if it is that one.
func (r *reader) take(kind int, text string) bool {
	k := r.now()
	if k.Kind != kind || k.Text != text {
		return false
	}
	r.at++
	return true
}

// need passes the next token, which must be that one.
func (r *reader) need(kind int, text string) {
	if !r.take(kind, text) {
		panic(r.missing())
	}
}

// missing is that the next token is none that must stand there.
func (r *reader) missing() wrong {
	k := r.now()
	if r.done() || k.Kind == api.End {
		return wrong{k.At, api.ErrEnd}
	}
	return wrong{k.At, api.ErrToken}
}

// finish asks for nothing any more, but perhaps an End.
func (r *reader) finish() {
	r.take(api.End, ".")
	if !r.done() {
		panic(wrong{r.now().At, api.ErrToken})
	}
}

func (r *reader) clauses() []api.Clause {
	var l []api.Clause
	for !r.done() {
		if len(l) == api.MaxClauses {
			panic(wrong{r.now().At, api.ErrBig})
		}
		l = append(l, r.clause())
	}
	return l
}

func (r *reader) clause() api.Clause {
	r.names, r.met = nil, map[string]int{}
	c := api.Clause{Head: r.atom()}
	if r.take(api.Sym, ":-") {
		c.Body = r.body()
	}
	r.need(api.End, ".")
	return c
}

func (r *reader) body() []api.Lit {
	l := []api.Lit{r.literal()}
	for r.take(api.Punct, ",") {
		if len(l) == api.MaxBody {
			panic(wrong{r.now().At, api.ErrBig})
		}
		l = append(l, r.literal())
	}
	return l
}

func (r *reader) literal() api.Lit {
	negative := r.take(api.Sym, `\+`)
	return api.Lit{Neg: negative, T: r.atom()}
}

func (r *reader) atom() []api.Cell {
	at := r.now().At
	t := r.whole()
	if t[0].Kind != api.Fun {
		panic(wrong{at, api.ErrToken})
	}
	return t
}

// whole is a term that is no part of another one.
func (r *reader) whole() []api.Cell {
	at := r.now().At
	grown, _ := r.term(most)
	t := grown.cells()
	if !term.Right(t) {
		panic(wrong{at, api.ErrBig})
	}
	return t
}

// term is one of a rank up to that, and its rank.
func (r *reader) term(up int) (tree, int) {
	left, rank := r.beginning()
	for {
		k := r.now()
		ranks, is := r.between[k.Text]
		if k.Kind != api.Sym || !is || ranks[0] > up {
			return left, rank
		}
		if rank > ranks[1] {
			panic(wrong{k.At, api.ErrRank})
		}
		r.at++
		right, _ := r.term(ranks[2])
		left, rank = fun(k.Text, left, right), ranks[0]
	}
}

// beginning is what a term begins with, and its rank.
func (r *reader) beginning() (tree, int) {
	k := r.now()
	switch {
	case k.Kind == api.Number:
		return number(r.next().N), 0
	case k.Kind == api.VarName:
		return r.variable(), 0
	case k.Kind == api.Name:
		name := r.next().Text
		return fun(name, r.arguments()...), 0
	case r.take(api.Punct, "("):
		t, _ := r.term(most)
		r.need(api.Punct, ")")
		return t, 0
	case r.take(api.Punct, "["):
		return r.list(), 0
	case r.take(api.Sym, "-"):
		return r.minus(k.At)
	}
	panic(r.missing())
}

// variable is one by its letters: those that were met are the same one, but each _ is a new one.
func (r *reader) variable() tree {
	name := r.next().Text
	n, is := r.met[name]
	if !is || name == "_" {
		n = len(r.names)
		r.met[name] = n
		r.names = append(r.names, name)
	}
	return tree{first: api.Cell{Kind: api.Var, N: n}}
}

// arguments are what stands in parentheses behind a name; none, if there are none.
func (r *reader) arguments() []tree {
	if !r.take(api.Punct, "(") {
		return nil
	}
	l := r.terms()
	r.need(api.Punct, ")")
	return l
}

// terms are one or more, with a comma between any two.
func (r *reader) terms() []tree {
	var l []tree
	for {
		t, _ := r.term(most)
		l = append(l, t)
		if !r.take(api.Punct, ",") {
			return l
		}
	}
}

// list is what stands behind a [, up to its ].
func (r *reader) list() tree {
	rest := fun("[]")
	if r.take(api.Punct, "]") {
		return rest
	}
	l := r.terms()
	if r.take(api.Punct, "|") {
		rest, _ = r.term(most)
	}
	r.need(api.Punct, "]")
	for i := len(l) - 1; i >= 0; i-- {
		rest = fun(".", l[i], rest)
	}
	return rest
}

// minus is what a - at that place begins: a number's sign, or an operator.
func (r *reader) minus(at int) (tree, int) {
	if k := r.now(); k.Kind == api.Number && k.At == at+1 {
		return number(-r.next().N), 0
	}
	ranks := r.ahead["-"]
	t, _ := r.term(ranks[2])
	return fun("-", t), ranks[0]
}
