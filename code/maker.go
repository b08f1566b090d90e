package code

import (
	"sorrel/api"
	"sorrel/term"
)

// maker lays the code of a clause that may be.
type maker struct {
	code []api.Instr
	next int         // the register that is new
	at   map[int]int // of each variable that was met its register
}

// placed is a term of a head, and the register in which it stands.
type placed struct {
	t  []api.Cell
	at int
}

// head lays what a head's arguments are made alike with. Funs within them wait at the row's end.
func (m *maker) head(t []api.Cell) {
	var row []placed
	for at, part := range term.Parts(t) {
		row = append(row, placed{part, at})
	}
	for len(row) > 0 {
		row = append(row[1:], m.get(row[0])...)
	}
}

// get lays what one term of a head is made alike with, and tells which Funs within it are still to come.
func (m *maker) get(p placed) []placed {
	first := p.t[0]
	switch first.Kind {
	case api.Var:
		m.variable(first.N, api.GetVar, api.GetVal, p.at)
	case api.Int:
		m.lay(api.Instr{Op: api.GetInt, A: p.at, N: first.N})
	case api.Fun:
		m.lay(api.Instr{Op: api.GetFun, A: p.at, Name: first.Name, N: first.N})
		return m.unify(term.Parts(p.t))
	}
	return nil
}

// unify lays what the arguments of a Fun of a head are made alike with, and tells which are Funs.
func (m *maker) unify(parts [][]api.Cell) []placed {
	var open []placed
	for _, part := range parts {
		first := part[0]
		switch first.Kind {
		case api.Var:
			m.variable(first.N, api.UniVar, api.UniVal, 0)
		case api.Int:
			m.lay(api.Instr{Op: api.UniInt, N: first.N})
		case api.Fun:
			at := m.fresh()
			m.lay(api.Instr{Op: api.UniVar, X: at})
			open = append(open, placed{part, at})
		}
	}
	return open
}

// literal lays a literal's structure, each Fun within it ahead of the one whose argument it is, and its Call.
func (m *maker) literal(x api.Lit) {
	var structure func(t []api.Cell) int
	structure = func(t []api.Cell) int {
		parts := term.Parts(t)
		inner := make([]int, len(parts))
		for i, part := range parts {
			if part[0].Kind == api.Fun {
				inner[i] = structure(part)
			}
		}
		at := m.fresh()
		m.lay(api.Instr{Op: api.PutFun, A: at, Name: t[0].Name, N: t[0].N})
		for i, part := range parts {
			m.set(part[0], inner[i])
		}
		return at
	}
	m.lay(api.Instr{Op: api.Call, A: structure(x.T), Neg: x.Neg})
}

// set lays an argument of a structure by its first cell; of a Fun it is told in which register it stands.
func (m *maker) set(first api.Cell, at int) {
	switch first.Kind {
	case api.Var:
		m.variable(first.N, api.SetVar, api.SetVal, 0)
	case api.Int:
		m.lay(api.Instr{Op: api.SetInt, N: first.N})
	case api.Fun:
		m.lay(api.Instr{Op: api.SetVal, X: at})
	}
}

// variable lays one operation, if a variable is met first, and another one, if it was met, with its register.
func (m *maker) variable(n int, first int, again int, a int) {
	at, met := m.at[n]
	op := again
	if !met {
		op, at = first, m.fresh()
		m.at[n] = at
	}
	m.lay(api.Instr{Op: op, X: at, A: a})
}

// fresh is a new register. Whoever asks for it lays it at once: those that were told stand in the code.
func (m *maker) fresh() int {
	m.next++
	return m.next - 1
}

func (m *maker) lay(i api.Instr) {
	m.code = append(m.code, i)
}
