package trans

import (
	"slices"

	"sorrel/api"
	"sorrel/facts"
)

// outcome is what came of a change: whether it is one that adds, and whether it could be done.
type outcome struct {
	adds bool
	done bool
}

// changed are b's facts with Todo done, in order, and true; nothing and false, if a change has an outcome that breaks it all off. What else can't be done is passed over.
func changed(b api.Base, breaks func(o outcome) bool) ([][]api.Cell, bool) {
	l := copiedRow(b.Facts)
	for _, c := range b.Todo {
		next, e := doing(c)(l, c.T)
		switch {
		case breaks(outcome{adds: c.Add, done: e == api.OK}):
			return nil, false
		case e == api.OK:
			l = next
		}
	}
	return l, true
}

// doing is the function by which c is done.
func doing(c api.Change) func(l [][]api.Cell, t []api.Cell) ([][]api.Cell, api.Errno) {
	if c.Add {
		return facts.Add
	}
	return facts.Drop
}

// copied is b in memory of its own, so that no base that comes out shares any with one that was handed in.
func copied(b api.Base) api.Base {
	b.Facts = copiedRow(b.Facts)
	b.Todo = slices.Clone(b.Todo)
	for i, c := range b.Todo {
		b.Todo[i] = copiedChange(c)
	}
	return b
}

func copiedChange(c api.Change) api.Change {
	c.T = slices.Clone(c.T)
	return c
}

func copiedRow(l [][]api.Cell) [][]api.Cell {
	l = slices.Clone(l)
	for i, t := range l {
		l[i] = slices.Clone(t)
	}
	return l
}
