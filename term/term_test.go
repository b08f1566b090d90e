package term_test

import (
	"math"
	"slices"
	"strings"
	"testing"

	"sorrel/api"
	"sorrel/term"
)

func same(a []api.Cell, b []api.Cell) bool { return slices.Equal(a, b) }

func TestRightTerms(t *testing.T) {
	for i, x := range [][]api.Cell{
		example(), variable(0), variable(999), number(0), number(1<<31 - 1), number(-1<<31 + 1),
		fun("a"), fun("twelve_bytes"), fun("twelve_bytes", example()), fun(" "), fun("~"), fun("&"), fun("("), fun("a b"), fun("[]"), fun("X"), fun("7"),
		fun("f", slices.Repeat([][]api.Cell{variable(0)}, 6)...), fun("f", fun("f"), fun("f", number(2))),
		nest(199, number(0)), nest(199, variable(999)), nest(199, fun("a")),
	} {
		if !term.Right(x) {
			t.Error(i, x)
		}
	}
	for i, x := range terms() {
		if !term.Right(x) {
			t.Error(i, x)
		}
	}
}

func TestRightRefuses(t *testing.T) {
	for i, x := range wrong() {
		if term.Right(x) {
			t.Error(i, x)
		}
	}
}

func TestRightLengths(t *testing.T) {
	// Wide ones, whose last argument makes the difference of one cell.
	wide := func(cells int) []api.Cell {
		return fun("f", nest(39, number(1)), nest(39, number(2)), nest(39, number(3)), nest(39, number(4)), nest(cells-162, number(5)))
	}
	if x := wide(200); len(x) != 200 || !term.Right(x) {
		t.Error("200 cells")
	}
	if x := wide(201); len(x) != 201 || term.Right(x) {
		t.Error("201 cells")
	}
	if !term.Right(nest(199, fun("a"))) || term.Right(nest(200, fun("a"))) {
		t.Error("nested cells")
	}
}

func TestRightNames(t *testing.T) {
	for b := range 256 {
		want := b >= 32 && b <= 126 && b != 39
		for _, name := range []string{string([]byte{byte(b)}), string([]byte{byte(b), 'a'}), string([]byte{'a', byte(b), 'a'}), strings.Repeat("a", 11) + string([]byte{byte(b)})} {
			if term.Right(fun(name)) != want || term.Right(fun("f", fun(name, number(1)))) != want {
				t.Error(b, name)
			}
		}
	}
	for n := range 40 {
		if term.Right(fun(strings.Repeat("a", n))) != (n >= 1 && n <= 12) {
			t.Error(n)
		}
	}
}

func TestRightNumbers(t *testing.T) {
	for n := -3; n <= 1003; n++ {
		if term.Right(variable(n)) != (n >= 0 && n <= 999) {
			t.Error("variable", n)
		}
	}
	for n := -3; n <= 10; n++ {
		args := slices.Repeat([][]api.Cell{variable(1)}, max(n, 0))
		if term.Right(join(head("f", n), slices.Concat(args...))) != (n >= 0 && n <= 6) {
			t.Error("arguments", n)
		}
	}
	for n, want := range map[int]bool{
		2147483646: true, 2147483647: true, 2147483648: false, -2147483646: true, -2147483647: true, -2147483648: false, -2147483649: false,
		1 << 32: false, 1<<32 + 5: false, math.MaxInt: false, math.MinInt: false, math.MinInt + 1: false, 1000: true, -1: true,
	} {
		if term.Right(number(n)) != want || term.Right(fun("f", variable(1), number(n))) != want {
			t.Error("number", n)
		}
	}
	for kind := -3; kind <= 8; kind++ {
		if term.Right([]api.Cell{{Kind: kind, N: 0, Name: "a"}}) != (kind == api.Fun) || term.Right([]api.Cell{{Kind: kind, N: 0}}) != (kind == api.Var || kind == api.Int) {
			t.Error("kind", kind)
		}
	}
}

func TestSame(t *testing.T) {
	all := append(grown(60), wrong()...)
	all = append(all, fun("a"), fun("b"), fun("a", number(1)), variable(1), number(1), variable(2), []api.Cell{{Kind: 4, Name: "a"}}, []api.Cell{{Kind: 4, Name: "b"}})
	for i, a := range all {
		if !term.Same(a, slices.Clone(a)) {
			t.Error(i, a)
		}
		for k, b := range all {
			if term.Same(a, b) != same(a, b) {
				t.Error(i, k, a, b)
			}
		}
	}
	if !term.Same(nil, []api.Cell{}) || term.Same(nil, variable(0)) || term.Same(example(), example()[:4]) || term.Same(example()[:4], example()) {
		t.Error("unlike lengths")
	}
}

func TestDepth(t *testing.T) {
	for i, x := range []struct {
		t    []api.Cell
		want int
	}{
		{variable(5), 1}, {number(-7), 1}, {number(6), 1}, {variable(6), 1}, {fun("a"), 1}, {fun("a", number(3)), 2}, {example(), 3}, {nest(199, variable(0)), 200},
		{fun("f", nest(3, fun("a")), number(1), nest(5, fun("a"))), 7}, {fun("f", nest(5, fun("a")), number(1)), 7},
		{fun("f", fun("g", number(1), number(2)), fun("g", number(1), fun("h", number(4)))), 4},
	} {
		if got := term.Depth(x.t); got != x.want {
			t.Error(i, x.t, got)
		}
	}
	for _, x := range terms() {
		if got := term.Depth(x); got != deep(x) {
			t.Error(x, got)
		}
	}
}

// deep tells a term's depth from its last cell backwards: the depths of the terms that begin so far behind it lie on a pile.
func deep(t []api.Cell) int {
	var pile []int
	for _, c := range slices.Backward(t) {
		most := 0
		if c.Kind == api.Fun {
			for range c.N {
				most = max(most, pile[len(pile)-1])
				pile = pile[:len(pile)-1]
			}
		}
		pile = append(pile, most+1)
	}
	return pile[0]
}

func TestVars(t *testing.T) {
	for i, x := range []struct {
		t    []api.Cell
		want []int
	}{
		{example(), []int{3, 1}}, {variable(0), []int{0}}, {variable(999), []int{999}}, {number(3), nil}, {fun("a"), nil},
		{fun("f", number(3), fun("g", number(1))), nil}, {fun("f", variable(2), variable(0), variable(2), variable(1), variable(0), variable(2)), []int{2, 0, 1}},
		{fun("f", fun("f", variable(9), variable(8)), fun("f", variable(8), variable(7))), []int{9, 8, 7}},
	} {
		if got := term.Vars(x.t); !slices.Equal(got, x.want) {
			t.Error(i, x.t, got)
		}
		if got := term.Ground(x.t); got != (len(x.want) == 0) {
			t.Error(i, x.t, got)
		}
	}
	for _, x := range terms() {
		var want []int
		for _, c := range x {
			if c.Kind == api.Var && !slices.Contains(want, c.N) {
				want = append(want, c.N)
			}
		}
		if got := term.Vars(x); !slices.Equal(got, want) || term.Ground(x) != (len(want) == 0) {
			t.Error(x, got)
		}
	}
}

func TestParts(t *testing.T) {
	l := [][]api.Cell{variable(3), fun("g", fun("h", variable(1), number(2))), number(3), fun("a"), nest(20, number(6)), variable(3)}
	for n := range 7 {
		got := term.Parts(fun("f", l[:n]...))
		if !slices.EqualFunc(got, l[:n], same) {
			t.Error(n, got)
		}
	}
	for _, x := range [][]api.Cell{variable(3), number(3), fun("a"), number(0), variable(0)} {
		if got := term.Parts(x); len(got) != 0 {
			t.Error(x, got)
		}
	}
}

func TestMake(t *testing.T) {
	l := slices.Repeat([][]api.Cell{example()}, 7)
	for n := range 7 {
		if got := term.Make("f", l[:n]); !same(got, fun("f", l[:n]...)) {
			t.Error(n, got)
		}
	}
	if got := term.Make("f", l); got != nil {
		t.Error("7 arguments", got)
	}
	if got := term.Make("f", slices.Repeat([][]api.Cell{variable(0)}, 7)); got != nil {
		t.Error("7 arguments", got)
	}
	if got := term.Make("s", [][]api.Cell{nest(198, number(0))}); !same(got, nest(199, number(0))) {
		t.Error("200 cells", got)
	}
	if got := term.Make("s", [][]api.Cell{nest(199, number(0))}); got != nil {
		t.Error("201 cells", got)
	}
	if got := term.Make("f", [][]api.Cell{nest(99, number(0)), nest(99, number(0))}); got != nil {
		t.Error("201 cells of two", got)
	}
	for name, may := range map[string]bool{"": false, "a": true, "twelve_bytes": true, "thirteen_byte": false, "\x1f": false, " ": true, "'": false, "~": true, "\x7f": false, "\x80": false, "a'": false, "[]": true} {
		if got := term.Make(name, nil); may != same(got, fun(name)) || !may && got != nil {
			t.Error(name, got)
		}
		if got := term.Make(name, [][]api.Cell{number(1)}); may != same(got, fun(name, number(1))) || !may && got != nil {
			t.Error(name, got)
		}
	}
	for i, x := range wrong() {
		for _, l := range [][][]api.Cell{{x}, {number(1), x}, {x, number(1)}, {x, x}, {x, x, x, x, x, x, x}} {
			if got := term.Make("f", l); got != nil {
				t.Error(i, x, got)
			}
		}
	}
	// The whole would be right, but these parts are not.
	if term.Make("f", [][]api.Cell{join(head("f", 2), number(1)), join(number(2), number(3))}) != nil || term.Make("f", [][]api.Cell{nil, join(number(1), number(2))}) != nil || term.Make("f", [][]api.Cell{head("f", 1), number(2)}) != nil {
		t.Error("wrong parts of a right whole")
	}
}

func TestShift(t *testing.T) {
	f := example()
	for _, by := range []int{0, 1, -1, 996, 995, 500} {
		if got := term.Shift(f, by); !same(got, fun("f", variable(3+by), fun("g", variable(1+by)), variable(3+by))) {
			t.Error(by, got)
		}
	}
	for _, by := range []int{997, -2, -4, 1000, -1000, 1 << 40, math.MaxInt, math.MinInt, math.MinInt + 1, math.MaxInt - 1} {
		if got := term.Shift(f, by); got != nil {
			t.Error(by, got)
		}
	}
	if !same(term.Shift(variable(0), 999), variable(999)) || !same(term.Shift(variable(999), -999), variable(0)) || term.Shift(variable(0), 1000) != nil || term.Shift(variable(999), -1000) != nil || term.Shift(variable(0), -1) != nil || term.Shift(variable(999), 1) != nil {
		t.Error("from end to end")
	}
	// Without variables there is nothing that could leave its bounds: numbers and counts of arguments stay.
	for _, x := range [][]api.Cell{number(5), number(api.MaxInt), fun("a"), fun("f", number(5), fun("a"))} {
		for _, by := range []int{0, 1, -1, 1000, math.MaxInt, math.MinInt} {
			if got := term.Shift(x, by); !same(got, x) {
				t.Error(x, by, got)
			}
		}
	}
}

func TestNumber(t *testing.T) {
	for i, x := range [][2][]api.Cell{
		{example(), fun("f", variable(0), fun("g", variable(1)), variable(0))}, {variable(999), variable(0)}, {variable(0), variable(0)}, {number(5), number(5)}, {fun("a"), fun("a")},
		{fun("f", variable(1), variable(0)), fun("f", variable(0), variable(1))},
		{fun("f", variable(2), number(2), variable(0), variable(1), variable(2), variable(0)), fun("f", variable(0), number(2), variable(1), variable(2), variable(0), variable(1))},
	} {
		if got := term.Number(x[0]); !same(got, x[1]) {
			t.Error(i, got)
		}
	}
}

func TestCompare(t *testing.T) {
	// In order: kinds first, then numbers (of a Fun how many arguments), then names, by bytes.
	l := [][]api.Cell{
		variable(0), variable(1), variable(999), number(-api.MaxInt), number(-5), number(-1), number(0), number(3), number(7), number(api.MaxInt),
		fun(" "), fun("B"), fun("a"), fun("aa"), fun("ab"), fun("b"), fun("~"),
		fun("a", variable(0)), fun("a", variable(1)), fun("a", number(-9)), fun("a", number(0)), fun("a", fun("z")), fun("a", fun("a", variable(0))), fun("b", variable(0)),
		fun("a", variable(0), variable(0)), fun("a", number(1), number(1)), fun("a", number(1), number(2)), fun("a", number(2), number(0)), fun("a", fun("a", number(9)), number(1)), fun("a", fun("b", number(1)), number(0)), fun("Z", number(1), number(1), number(1)),
	}
	for i := range l {
		for k := range l {
			want := 0
			if i < k {
				want = -1
			} else if i > k {
				want = 1
			}
			if got := term.Compare(l[i], l[k]); got != want {
				t.Error(l[i], l[k], got)
			}
		}
	}
	if term.Compare(fun("a"), number(7)) != 1 || term.Compare(number(7), fun("a")) != -1 {
		t.Error("the chapter's example")
	}
}
