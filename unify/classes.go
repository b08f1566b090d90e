package unify

import (
	"iter"
	"slices"

	"sorrel/api"
)

// classes are the places of two right terms, and which of them are in one class.
type classes struct {
	cells  []api.Cell  // both terms, one behind the other
	behind []int       // of each place the one behind the term that begins there
	first  map[int]int // of each variable the place at which it first stands
	up     []int       // of each place another one of its class, itself where that stands for the class
	size   []int       // of a place that stands for its class: how many cells the class's term has
}

// What stands in the place of a size that is not known yet.
const (
	unseen = 0
	open   = -1 // it is being reckoned
)

// laid are the classes of two right terms in which only places with the same variable are together.
func laid(a []api.Cell, b []api.Cell) *classes {
	cells := slices.Concat(a, b)
	c := &classes{cells: cells, behind: ends(cells), first: map[int]int{}, up: make([]int, len(cells)), size: make([]int, len(cells))}
	for at, cell := range cells {
		c.up[at] = at
		if cell.Kind != api.Var {
			continue
		}
		if first, met := c.first[cell.N]; met {
			c.up[at] = first
		} else {
			c.first[cell.N] = at
		}
	}
	return c
}

// find is the place that stands for the class of another one. Its cell is the first one of the class's term.
func (c *classes) find(at int) int {
	for c.up[at] != at {
		c.up[at] = c.up[c.up[at]]
		at = c.up[at]
	}
	return at
}

// join makes one class of those of two places, and of all that are one by that; false, if one has unlike cells.
func (c *classes) join(x int, y int) bool {
	todo := [][2]int{{x, y}}
	clash := false
joining:
	for len(todo) > 0 {
		pair := todo[len(todo)-1]
		todo = todo[:len(todo)-1]
		x, y := c.find(pair[0]), c.find(pair[1])
		switch {
		case x == y:
		case yields(c.cells[x], c.cells[y]):
			c.up[x] = y
		case yields(c.cells[y], c.cells[x]):
			c.up[y] = x
		case c.cells[x] != c.cells[y]:
			clash = true
			break joining
		default:
			c.up[x] = y
			for left, right := range c.pairs(x, y) {
				todo = append(todo, [2]int{left, right})
			}
		}
	}
	return !clash
}

// measure finds the size of the term of a place's class, and of all that it leads to; false, if one is within itself.
func (c *classes) measure(at int) bool {
	at = c.find(at)
	if c.size[at] != unseen {
		return c.size[at] != open
	}
	c.size[at] = open
	size := 1
	for part := range c.parts(at) {
		if !c.measure(part) {
			return false
		}
		size += c.size[c.find(part)]
	}
	// Cut, as sizes may double from class to class.
	c.size[at] = min(size, api.MaxCells+1)
	return true
}

// term is that of a variable's class; nil and false, if it is too long.
func (c *classes) term(v int) ([]api.Cell, bool) {
	at := c.find(c.first[v])
	if c.size[at] > api.MaxCells {
		return nil, false
	}
	return c.lay(nil, at), true
}

// lay puts the term of a place's class behind the cells of t.
func (c *classes) lay(t []api.Cell, at int) []api.Cell {
	at = c.find(at)
	t = append(t, c.cells[at])
	for part := range c.parts(at) {
		t = c.lay(t, part)
	}
	return t
}

// parts hands on the places of the arguments of what stands at a place.
func (c *classes) parts(at int) iter.Seq[int] {
	return func(yield func(int) bool) {
		part := at + 1
		for range arguments(c.cells[at]) {
			if !yield(part) {
				return
			}
			part = c.behind[part]
		}
	}
}

// pairs hands on the places of the arguments of two that have as many: the first ones, the second ones, and on.
func (c *classes) pairs(x int, y int) iter.Seq2[int, int] {
	return func(yield func(int, int) bool) {
		right := y + 1
		for left := range c.parts(x) {
			if !yield(left, right) {
				return
			}
			right = c.behind[right]
		}
	}
}

// yields says whether a cell gives way to another one as the first of a class's term.
func yields(c api.Cell, to api.Cell) bool {
	return c.Kind == api.Var && (to.Kind != api.Var || to.N < c.N)
}

// arguments is how many terms stand behind a cell of a right term, as its own.
func arguments(c api.Cell) int {
	if c.Kind != api.Fun {
		return 0
	}
	return c.N
}

// ends is, of each place of a row of right terms, the place behind the term that begins there.
func ends(row []api.Cell) []int {
	behind := make([]int, len(row))
	for at := len(row) - 1; at >= 0; at-- {
		next := at + 1
		for range arguments(row[at]) {
			next = behind[next]
		}
		behind[at] = next
	}
	return behind
}
