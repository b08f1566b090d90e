// Package term is layer 1: terms, as rows of cells. See shared/doc/01-term.md.
//
// Of rows that are no right term the document says nothing but for Right, Make and Same;
// no function panics at them.
package term

import (
	"cmp"
	"slices"

	"sorrel/api"
)

// Right says whether t is one right term, with nothing behind it.
func Right(t []api.Cell) bool {
	// A longer row is not gone into: it could nest deeper than a stack reaches.
	return len(t) <= api.MaxCells && behind(t, 0) == len(t)
}

// Same says whether both rows are the same cells, in order; they need not be terms.
func Same(a []api.Cell, b []api.Cell) bool {
	if len(a) != len(b) {
		return false
	}
	for i := range a {
		if a[i] != b[i] {
			return false
		}
	}
	return true
}

// Depth is 1 of a term without arguments, else one more than the greatest of theirs.
func Depth(t []api.Cell) int {
	if !Right(t) {
		return 0
	}
	at := 0
	var depth func() int
	depth = func() int {
		first := t[at]
		at++
		most := 0
		for range arguments(first) {
			most = max(most, depth())
		}
		return most + 1
	}
	return depth()
}

// Vars are the numbers of t's variables, in the order in which they first stand there.
func Vars(t []api.Cell) []int {
	var vars []int
	met := map[int]bool{}
	for _, c := range t {
		if c.Kind == api.Var && !met[c.N] {
			met[c.N] = true
			vars = append(vars, c.N)
		}
	}
	return vars
}

// Ground says whether t has no variable.
func Ground(t []api.Cell) bool {
	for _, c := range t {
		if c.Kind == api.Var {
			return false
		}
	}
	return true
}

// Parts are t's arguments, in order.
func Parts(t []api.Cell) [][]api.Cell {
	if !Right(t) {
		return nil
	}
	var parts [][]api.Cell
	at := 1
	for range arguments(t[0]) {
		next := behind(t, at)
		// Each part is memory of its own, so that no answer shares any with t or with another.
		parts = append(parts, slices.Clone(t[at:next]))
		at = next
	}
	return parts
}

// Make is the term of a name and its arguments; nil, unless each of these is right, and the whole is.
func Make(name string, l [][]api.Cell) []api.Cell {
	t := []api.Cell{{Kind: api.Fun, Name: name, N: len(l)}}
	// Asked first, so that no long row is laid for nothing.
	if !may(t[0]) {
		return nil
	}
	for _, part := range l {
		// Parts that are wrong by themselves may make a right row together.
		if !Right(part) {
			return nil
		}
		t = append(t, part...)
	}
	if !Right(t) {
		return nil
	}
	return t
}

// Shift is t with by added to the number of each variable; nil, if that is not right.
func Shift(t []api.Cell, by int) []api.Cell {
	shifted := slices.Clone(t)
	for i, c := range t {
		if c.Kind == api.Var {
			shifted[i].N = c.N + by
		}
	}
	if !Right(shifted) {
		return nil
	}
	return shifted
}

// Number is t with its variables numbered from 0 on, in the order in which they first stand there.
func Number(t []api.Cell) []api.Cell {
	places := map[int]int{}
	for place, n := range Vars(t) {
		places[n] = place
	}
	numbered := slices.Clone(t)
	for i, c := range t {
		if c.Kind == api.Var {
			numbered[i].N = places[c.N]
		}
	}
	return numbered
}

// Compare is -1, 0 or 1, as a stands ahead of b, is the same, or stands behind it.
func Compare(a []api.Cell, b []api.Cell) int {
	for i := range min(len(a), len(b)) {
		if a[i] != b[i] {
			return order(a[i], b[i])
		}
	}
	// Of right terms none is the beginning of another one: this is 0 of them.
	return cmp.Compare(len(a), len(b))
}

// order holds two cells against each other: Kind counts first, then N, and Name last.
func order(a api.Cell, b api.Cell) int {
	if a.Kind != b.Kind {
		return cmp.Compare(a.Kind, b.Kind)
	}
	if a.N != b.N {
		return cmp.Compare(a.N, b.N)
	}
	return cmp.Compare(a.Name, b.Name)
}

// behind is the place behind the term that begins at a place of t; -1, if no term of cells that may be begins there.
func behind(t []api.Cell, at int) int {
	var pass func(at int) int
	pass = func(at int) int {
		if at < 0 || at >= len(t) || !may(t[at]) {
			return -1
		}
		next := at + 1
		for range arguments(t[at]) {
			next = pass(next)
		}
		return next
	}
	return pass(at)
}

// arguments is how many terms stand behind a cell that may be, as its own.
func arguments(c api.Cell) int {
	if c.Kind != api.Fun {
		return 0
	}
	return c.N
}

// may says whether a cell may stand in a right term.
func may(c api.Cell) bool {
	switch c.Kind {
	case api.Var:
		return c.Name == "" && 0 <= c.N && c.N <= api.MaxVar
	case api.Int:
		return c.Name == "" && -api.MaxInt <= c.N && c.N <= api.MaxInt
	case api.Fun:
		return 0 <= c.N && c.N <= api.MaxArity && named(c.Name)
	}
	return false
}

// named says whether a Fun may have that name.
func named(name string) bool {
	if len(name) < 1 || len(name) > api.MaxName {
		return false
	}
	for i := range len(name) {
		if b := name[i]; b < 32 || b > 126 || b == '\'' {
			return false
		}
	}
	return true
}
