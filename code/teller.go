package code

import "sorrel/api"

// node is a term that is put together: its first cell, and its arguments. Of a variable N is its register.
type node struct {
	cell  api.Cell
	parts []*node
}

// teller puts a clause's terms together of code, of which it takes one instruction after the other.
type teller struct {
	rest  []api.Instr
	funs  map[int]bool  // the registers whose Funs a head's instructions tell
	built map[int]*node // by its register each structure that is no part of another one, or a literal, yet
	bad   bool          // something stood where nothing of a clause's code could
}

// told is the only clause that may have the code l, which is not empty; nothing and false, if there is none.
// That it has that code is not told.
func told(l []api.Instr) (api.Clause, bool) {
	end := l[len(l)-1]
	// A head without end would be laid before it was clear that nothing tells of it.
	if end.N > api.MaxArity {
		return api.Clause{}, false
	}
	r := &teller{rest: l[:len(l)-1], funs: map[int]bool{}, built: map[int]*node{}}
	for _, i := range l {
		if i.Op == api.GetFun {
			r.funs[i.A] = true
		}
	}
	head := r.head(end)
	body := r.body()
	if r.bad {
		return api.Clause{}, false
	}
	c := api.Clause{Head: head, Body: body}
	number(c)
	return c, true
}

// next takes the next instruction; a zero one, which no case takes, if there is none.
func (r *teller) next() api.Instr {
	if len(r.rest) == 0 {
		return api.Instr{}
	}
	i := r.rest[0]
	r.rest = r.rest[1:]
	return i
}

// head is the head that the code's end names, and whose arguments are told ahead of all literals.
func (r *teller) head(end api.Instr) []api.Cell {
	head := &node{cell: fun(end)}
	for range end.N {
		head.parts = append(head.parts, &node{})
	}
	var row []*node
	row = append(row, head.parts...)
	for len(row) > 0 && !r.bad {
		row = append(row[1:], r.get(row[0])...)
	}
	return cells(head)
}

// get fills in a term of a head, and tells of which of its arguments it is still to be told what they are.
func (r *teller) get(n *node) []*node {
	i := r.next()
	switch i.Op {
	case api.GetVar, api.GetVal:
		n.cell = variable(i)
	case api.GetInt:
		n.cell = integer(i)
	case api.GetFun:
		n.cell = fun(i)
		return r.unify(n, i.N)
	default:
		r.bad = true
	}
	return nil
}

// unify gives a Fun of a head its arguments, and tells which of them are Funs, that are still to be told.
func (r *teller) unify(n *node, many int) []*node {
	var open []*node
	for len(n.parts) < many && !r.bad {
		part := &node{}
		n.parts = append(n.parts, part)
		switch i := r.next(); i.Op {
		case api.UniVar:
			part.cell = variable(i)
			if r.funs[i.X] {
				open = append(open, part)
			}
		case api.UniVal:
			part.cell = variable(i)
		case api.UniInt:
			part.cell = integer(i)
		default:
			r.bad = true
		}
	}
	return open
}

// body are the literals that all that is left tells.
func (r *teller) body() []api.Lit {
	var body []api.Lit
	for len(r.rest) > 0 && !r.bad {
		switch i := r.next(); i.Op {
		case api.PutFun:
			r.built[i.A] = r.structure(i)
		case api.Call:
			body = append(body, r.literal(i))
		default:
			r.bad = true
		}
	}
	return body
}

// literal is the one whose structure is in a Call's register.
func (r *teller) literal(call api.Instr) api.Lit {
	n, is := r.taken(call.A)
	if !is {
		r.bad = true
		return api.Lit{}
	}
	return api.Lit{Neg: call.Neg, T: cells(n)}
}

// structure is the one that begins with a PutFun.
func (r *teller) structure(put api.Instr) *node {
	n := &node{cell: fun(put)}
	for len(n.parts) < put.N && !r.bad {
		part := &node{}
		switch i := r.next(); i.Op {
		case api.SetVar:
			part.cell = variable(i)
		case api.SetVal:
			inner, is := r.taken(i.X)
			if is {
				part = inner
			} else {
				part.cell = variable(i)
			}
		case api.SetInt:
			part.cell = integer(i)
		default:
			r.bad = true
		}
		n.parts = append(n.parts, part)
	}
	return n
}

// taken is the structure in a register, which is not there any more then: no term grows beyond its code.
func (r *teller) taken(at int) (*node, bool) {
	n, is := r.built[at]
	delete(r.built, at)
	return n, is
}

// cells are those of a term, in a row.
func cells(n *node) []api.Cell {
	var t []api.Cell
	var lay func(n *node)
	lay = func(n *node) {
		t = append(t, n.cell)
		for _, part := range n.parts {
			lay(part)
		}
	}
	lay(n)
	return t
}

// number gives each variable, in the place of its register, its number by where it first stands.
func number(c api.Clause) {
	places := map[int]int{}
	within := func(t []api.Cell) {
		for i, x := range t {
			if x.Kind != api.Var {
				continue
			}
			if _, met := places[x.N]; !met {
				places[x.N] = len(places)
			}
			t[i].N = places[x.N]
		}
	}
	within(c.Head)
	for _, x := range c.Body {
		within(x.T)
	}
}

func variable(i api.Instr) api.Cell { return api.Cell{Kind: api.Var, N: i.X} }

func integer(i api.Instr) api.Cell { return api.Cell{Kind: api.Int, N: i.N} }

func fun(i api.Instr) api.Cell { return api.Cell{Kind: api.Fun, Name: i.Name, N: i.N} }
