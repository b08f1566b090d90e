package mach

import (
	"sorrel/api"
	"sorrel/heap"
)

// operation does an instruction; its error is by which steps end.
type operation func(m *machine, i api.Instr) error

// table is of each operation what it does, at its number.
type table [api.Proceed + 1]operation

func operations() table {
	return table{
		api.GetVar:  (*machine).getVar,
		api.GetVal:  (*machine).getVal,
		api.GetInt:  (*machine).getInt,
		api.GetFun:  (*machine).getFun,
		api.UniVar:  (*machine).keep,
		api.UniVal:  (*machine).uniVal,
		api.UniInt:  (*machine).uniInt,
		api.PutFun:  (*machine).putFun,
		api.SetVar:  (*machine).keep,
		api.SetVal:  (*machine).setVal,
		api.SetInt:  (*machine).setInt,
		api.Call:    (*machine).call,
		api.Proceed: (*machine).proceed,
	}
}

func (m *machine) getVar(i api.Instr) error {
	m.at[i.X] = m.at[i.A]
	return nil
}

func (m *machine) getVal(i api.Instr) error {
	return m.unify(m.at[i.X], m.at[i.A])
}

func (m *machine) getInt(i api.Instr) error {
	return m.number(m.at[i.A], i.N)
}

// getFun goes on into a top that stands there, or into one that is put where a variable is free.
func (m *machine) getFun(i api.Instr) error {
	at, err := m.follow(m.at[i.A])
	if err != nil {
		return err
	}
	want := api.Slot{Tag: api.Top, Name: i.Name, N: i.N}
	switch s := m.heap.Cells[at]; {
	case s == want:
		m.next = at + 1
		return nil
	case s.Tag != api.Ref:
		return api.ErrNone
	}
	top, err := m.structure(i.Name, i.N)
	if err != nil {
		return err
	}
	m.bind(at, top)
	return nil
}

// keep lets a register have the next slot.
func (m *machine) keep(i api.Instr) error {
	m.at[i.X] = m.slot()
	return nil
}

func (m *machine) uniVal(i api.Instr) error {
	return m.unify(m.slot(), m.at[i.X])
}

func (m *machine) uniInt(i api.Instr) error {
	return m.number(m.slot(), i.N)
}

func (m *machine) putFun(i api.Instr) error {
	top, err := m.structure(i.Name, i.N)
	if err != nil {
		return err
	}
	m.at[i.A] = top
	return nil
}

// setVal lets the next slot lead to what a register has: a Ptr leads to tops alone.
func (m *machine) setVal(i api.Instr) error {
	to := m.at[i.X]
	if !m.stands(to) {
		return api.ErrArg
	}
	tag := api.Ref
	if m.heap.Cells[to].Tag == api.Top {
		tag = api.Ptr
	}
	return m.set(api.Slot{Tag: tag, N: to})
}

func (m *machine) setInt(i api.Instr) error {
	return m.set(api.Slot{Tag: api.Num, N: i.N})
}

func (m *machine) call(i api.Instr) error {
	m.goals = append(m.goals, api.Goal{Neg: i.Neg, At: m.at[i.A]})
	return nil
}

func (m *machine) proceed(api.Instr) error {
	return nil
}

// unify makes the terms at two places alike.
func (m *machine) unify(a int, b int) error {
	h, is := heap.Unify(m.heap, a, b)
	if !is {
		return api.ErrNone
	}
	m.heap = h
	return nil
}

// number makes a place a number: one stands there, or a variable that is free becomes it.
func (m *machine) number(at int, n int) error {
	at, err := m.follow(at)
	if err != nil {
		return err
	}
	want := api.Slot{Tag: api.Num, N: n}
	switch s := m.heap.Cells[at]; {
	case s == want:
		return nil
	case s.Tag != api.Ref:
		return api.ErrNone
	}
	to, err := m.put(want)
	if err != nil {
		return err
	}
	m.bind(at, to)
	return nil
}

// set lays a slot in the place of the next one, which was free, and to which nothing leads yet: so the
// trail needs not tell of it.
func (m *machine) set(s api.Slot) error {
	at := m.slot()
	if !m.stands(at) {
		return api.ErrArg
	}
	m.heap.Cells[at] = s
	return nil
}
