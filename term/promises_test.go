package term_test

import (
	"math/rand/v2"
	"slices"
	"testing"

	"sorrel/api"
	"sorrel/term"
)

// P1.1, A1: rows of cells from a small choice are right just if they are read, from behind, as one term.
func TestRightAsFromBehind(t *testing.T) {
	from := rand.New(rand.NewPCG(3, 5))
	choice := join(variable(0), variable(999), number(1), head("a", 0), head("f", 1), head("f", 2), head("g", 3))
	wrong := join(variable(1000), head("", 1))
	rights := 0
	for range 100000 {
		row := make([]api.Cell, from.IntN(8))
		for i := range row {
			row[i] = choice[from.IntN(len(choice))]
			if from.IntN(40) == 0 {
				row[i] = wrong[from.IntN(len(wrong))]
			}
		}
		want := one(row)
		if want {
			rights++
		}
		if term.Right(row) != want {
			t.Fatal(row, want)
		}
	}
	if rights < 1000 {
		t.Error("too few right rows to tell:", rights)
	}
}

// one counts, from the last cell backwards, the terms that stand there.
func one(row []api.Cell) bool {
	count := 0
	for _, c := range slices.Backward(row) {
		if c.Kind == api.Var && c.N > 999 || c.Kind == api.Fun && c.Name == "" {
			return false
		}
		if c.Kind == api.Fun {
			count -= c.N
		}
		if count < 0 {
			return false
		}
		count++
	}
	return count == 1
}

// P1.2: a term is made of its name and its parts.
func TestMade(t *testing.T) {
	for _, x := range terms() {
		parts := term.Parts(x)
		for _, p := range parts {
			if !term.Right(p) {
				t.Error(x, p)
			}
		}
		if x[0].Kind != api.Fun {
			continue
		}
		if len(parts) != x[0].N {
			t.Error(x, parts)
		}
		if got := term.Make(x[0].Name, parts); !same(got, x) {
			t.Error(x, got)
		}
	}
	l := grown(40)
	for n := range l[6:] {
		for many := range 7 {
			made := term.Make("made", l[n:n+many])
			if whole := fun("made", l[n:n+many]...); len(whole) > api.MaxCells {
				if made != nil {
					t.Error(n, many)
				}
			} else if !same(made, whole) || !slices.EqualFunc(term.Parts(made), l[n:n+many], same) {
				t.Error(n, many, made)
			}
		}
	}
}

// P1.3: a right term without its last cell, or with one more, is none.
func TestRightAlone(t *testing.T) {
	more := join(variable(0), number(0), head("a", 0), head("f", 1), []api.Cell{{}})
	for _, x := range terms() {
		if term.Right(x[:len(x)-1]) {
			t.Error("without its last cell", x)
		}
		for _, c := range more {
			if term.Right(join(x, []api.Cell{c})) {
				t.Error("with one more", x, c)
			}
		}
	}
}

// P1.4: shifted there and back a term is as it was.
func TestShiftedBack(t *testing.T) {
	for _, x := range terms() {
		vars := term.Vars(x)
		for _, by := range []int{0, 1, -1, 7, 200, -3, 999, -999, 1000, -1000} {
			fits := true
			for _, n := range vars {
				fits = fits && n+by >= 0 && n+by <= 999
			}
			there := term.Shift(x, by)
			if !fits {
				if there != nil {
					t.Error(x, by, there)
				}
				continue
			}
			if !term.Right(there) || !same(term.Shift(there, -by), x) || (by != 0 && len(vars) > 0) == same(there, x) {
				t.Error(x, by, there)
			}
		}
	}
}

// P1.4: numbered it is so for ever, and two that differ in their variables' names alone are numbered alike.
func TestNumberedForEver(t *testing.T) {
	for _, x := range terms() {
		n := term.Number(x)
		vars := term.Vars(n)
		for i, v := range vars {
			if i != v {
				t.Error(x, n)
			}
		}
		if !term.Right(n) || !same(term.Number(n), n) || len(vars) != len(term.Vars(x)) {
			t.Error(x, n)
		}
		other := renamed(x, func(n int) int { return 999 - n })
		if !same(term.Number(other), n) {
			t.Error(x, other, term.Number(other))
		}
		// Where two variables become one, the terms are no longer alike but for names.
		if len(vars) > 1 && same(term.Number(renamed(x, func(int) int { return 4 })), n) {
			t.Error(x, "is numbered like one of fewer variables")
		}
	}
}

func renamed(t []api.Cell, to func(n int) int) []api.Cell {
	other := slices.Clone(t)
	for i, c := range other {
		if c.Kind == api.Var {
			other[i].N = to(c.N)
		}
	}
	return other
}

// P1.5: Compare is an order of all right terms.
func TestOrder(t *testing.T) {
	l := terms()
	for _, a := range l {
		for _, b := range l {
			c := term.Compare(a, b)
			if c < -1 || c > 1 || c != -term.Compare(b, a) || (c == 0) != same(a, b) {
				t.Fatal(a, b, c)
			}
		}
	}
	slices.SortFunc(l, term.Compare)
	for i, a := range l {
		for _, b := range l[i:] {
			if term.Compare(a, b) > 0 {
				t.Fatal("the sorted row falls", a, b)
			}
		}
	}
}

// answers are what all calls tell of two rows, each told twice over by TestSameAgain.
func answers(a []api.Cell, b []api.Cell) []any {
	parts := term.Parts(a)
	return []any{
		term.Right(a), term.Same(a, b), term.Depth(a), term.Vars(a), term.Ground(a), parts, term.Make("made", [][]api.Cell{a, b}),
		term.Shift(a, 3), term.Shift(a, -3), term.Number(a), term.Compare(a, b), term.Make("made", parts),
	}
}

// P1: no call panics, and each ends, at rows that are no terms as well.
func TestNoPanic(t *testing.T) {
	l := append(wrong(), example(), variable(999), number(-1))
	for _, a := range l {
		for _, b := range l {
			answers(a, b)
		}
		for _, by := range []int{1<<63 - 1, -1 << 63} {
			term.Shift(a, by)
		}
	}
	// So deep that a call which went down it would come to the end of its stack.
	long := slices.Repeat(head("s", 1), 1<<23)
	long[len(long)-1] = number(1)[0]
	if term.Right(long) || term.Depth(long) != 0 || term.Parts(long) != nil || term.Make("f", [][]api.Cell{long}) != nil {
		t.Error("a term of too many cells")
	}
}

// P2: where there is none, nothing is told: no row, no part of one.
func TestNothing(t *testing.T) {
	if len(term.Make("", nil)) != 0 || len(term.Make("f", [][]api.Cell{nil})) != 0 || len(term.Shift(example(), 997)) != 0 || len(term.Shift(example(), -2)) != 0 || len(term.Parts(variable(0))) != 0 || len(term.Vars(number(1))) != 0 {
		t.Error("something")
	}
}

// P3: nothing that is handed in is changed or kept, and an answer hangs on the arguments alone.
func TestSameAgain(t *testing.T) {
	l := append(grown(80), example(), fun("f", variable(5), variable(5)), variable(7), number(7), fun("a"))
	for i, a := range l {
		b := l[(i+1)%len(l)]
		keptA, keptB := slices.Clone(a), slices.Clone(b)
		first := answers(a, b)
		spoil(answers(a, b))
		if !same(a, keptA) || !same(b, keptB) {
			t.Fatal("an argument was changed, or is part of an answer", keptA, keptB)
		}
		if again := answers(keptA, keptB); !slices.EqualFunc(first, again, alike) {
			t.Error(first, again)
		}
	}
}

// spoil writes over all rows of answers.
func spoil(l []any) {
	for _, x := range l {
		switch row := x.(type) {
		case []api.Cell:
			for i := range row {
				row[i] = api.Cell{Kind: 9, Name: "spoilt", N: 9}
			}
		case [][]api.Cell:
			for i := range row {
				spoil([]any{row[i]})
			}
		}
	}
}

func alike(x any, y any) bool {
	switch a := x.(type) {
	case []api.Cell:
		return same(a, y.([]api.Cell))
	case [][]api.Cell:
		return slices.EqualFunc(a, y.([][]api.Cell), same)
	case []int:
		return slices.Equal(a, y.([]int))
	}
	return x == y
}

// P3: an empty row and none are the same.
func TestEmpty(t *testing.T) {
	none := []api.Cell{}
	if term.Right(nil) || term.Right(none) || !term.Same(nil, none) || !term.Same(none, nil) || !same(term.Make("a", nil), term.Make("a", [][]api.Cell{})) || term.Make("f", [][]api.Cell{none}) != nil {
		t.Error("an empty row is not none")
	}
}
