package mach

import (
	"errors"

	"sorrel/api"
)

// errEnd is how steps end behind the last instruction, when all went well.
var errEnd = errors.New("mach: behind the last instruction")

// machine is a heap on which code runs, in memory of its own.
type machine struct {
	heap  api.Heap
	at    map[int]int // of each register that was set the place that it has
	next  int         // the next slot
	goals []api.Goal
	done  int // how many instructions were done
}

// loaded is a machine ahead of the first instruction.
func loaded(h api.Heap, args []int) *machine {
	m := &machine{heap: copied(h), at: map[int]int{}}
	for register, at := range args {
		m.at[register] = at
	}
	return m
}

// run does instruction by instruction, until a step ends by an error, which it tells.
func (m *machine) run(l []api.Instr, steps int) error {
	does := operations()
	var err error
	for err == nil {
		err = m.step(does, l, steps)
	}
	return err
}

// step does the first instruction that was not done yet.
func (m *machine) step(does table, l []api.Instr, steps int) error {
	if m.done == len(l) {
		return errEnd
	}
	if m.done >= steps {
		return api.ErrSteps
	}
	i := l[m.done]
	if i.Op < 0 || i.Op >= len(does) || does[i.Op] == nil {
		return api.ErrArg
	}
	if err := does[i.Op](m, i); err != nil {
		return err
	}
	m.done++
	return nil
}

// errno is the number of the error by which a step ended.
func errno(err error) api.Errno {
	var e api.Errno
	errors.As(err, &e)
	return e
}

// slot is the place of the next slot, which goes on by one.
func (m *machine) slot() int {
	m.next++
	return m.next - 1
}

// stands says whether a place is a slot's.
func (m *machine) stands(at int) bool {
	return 0 <= at && at < len(m.heap.Cells)
}

// follow is the place of the free variable, the number or the top to which a place leads.
func (m *machine) follow(at int) (int, error) {
	// Counted, so that it ends even where slots lead round.
	for range m.heap.Cells {
		if !m.stands(at) {
			break
		}
		s := m.heap.Cells[at]
		if s.Tag != api.Ptr && (s.Tag != api.Ref || s.N == at) {
			return at, nil
		}
		at = s.N
	}
	return 0, api.ErrArg
}

// put lays a slot behind the heap's others, and tells its place.
func (m *machine) put(s api.Slot) (int, error) {
	at := len(m.heap.Cells)
	if at >= m.heap.Room {
		return 0, api.ErrFull
	}
	m.heap.Cells = append(m.heap.Cells, s)
	return at, nil
}

// structure puts a top, and as many free variables behind it as it has slots, the first of which is the next
// one then; it tells the top's place.
func (m *machine) structure(name string, n int) (int, error) {
	// No room is asked for what may not be, however much there is.
	if n < 0 || n > api.MaxArity {
		return 0, api.ErrArg
	}
	top, err := m.put(api.Slot{Tag: api.Top, Name: name, N: n})
	if err != nil {
		return 0, err
	}
	m.next = top + 1
	for i := range n {
		if _, err := m.put(api.Slot{Tag: api.Ref, N: m.next + i}); err != nil {
			return 0, err
		}
	}
	return top, nil
}

// bind lets the free variable at a place lead to another place.
func (m *machine) bind(at int, to int) {
	m.heap.Cells[at].N = to
	m.heap.Trail = append(m.heap.Trail, at)
}
