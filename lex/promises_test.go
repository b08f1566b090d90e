package lex_test

import (
	"slices"
	"strings"
	"testing"

	"sorrel/api"
	"sorrel/lex"
)

// written is a token's text as it stands in a text.
func written(k api.Token) string {
	plain := k.Kind != api.Name || strings.Contains(smalls, k.Text[:1]) && strings.Trim(k.Text, letters) == ""
	if plain {
		return k.Text
	}
	return "'" + k.Text + "'"
}

// standing is a token's text as it stands at its place, in quotes or without them.
func standing(s string, k api.Token) string {
	if s[k.At] == '\'' {
		return "'" + k.Text + "'"
	}
	return k.Text
}

// P4.2: tokens stand one behind the other, each as it is at its place, with nothing but blanks and remarks between them.
func TestInOrder(t *testing.T) {
	from := seeded(1)
	told := 0
	for range 4000 {
		s := from.any()
		l, _, e := lex.Lex(s)
		if e != api.OK {
			continue
		}
		told += len(l)
		at := 0
		for _, k := range l {
			if k.At < at || !strings.HasPrefix(s[k.At:], standing(s, k)) {
				t.Fatalf("%q %v: %v is not there", s, l, k)
			}
			want(t, s[at:k.At])
			at = k.At + len(standing(s, k))
		}
		want(t, s[at:])
	}
	if told < 5000 {
		t.Error("too few to tell:", told)
	}
}

// P4.3: the tokens of two lines are those of the one, and then those of the other.
func TestLines(t *testing.T) {
	from := seeded(2)
	var count [3]int
	for range 6000 {
		a, b := from.line(), from.line()
		both := a + "\n" + b
		l, at, e := lex.Lex(a)
		m, atB, eB := lex.Lex(b)
		switch {
		case e != api.OK:
			count[0]++
			wrong(t, both, at, e)
		case eB != api.OK:
			count[1]++
			wrong(t, both, len(a)+1+atB, eB)
		default:
			count[2]++
			want(t, both, slices.Concat(l, moved(m, len(a)+1))...)
		}
	}
	if slices.Min(count[:]) < 300 {
		t.Error("too few to tell:", count)
	}
}

// P4.3: a remark changes no token, behind a line or on one of its own.
func TestRemarks(t *testing.T) {
	from := seeded(3)
	told := 0
	for range 3000 {
		a, b, remark := from.line(), from.line(), "%"+from.some(letters+signs+puncts+"'\"{ %\x00\xff", 9)
		plain, _, e := lex.Lex(a + "\n" + b)
		if e != api.OK {
			continue
		}
		told++
		for _, s := range []string{a + remark + "\n" + b, a + "\n" + remark + "\n" + b, remark + "\n" + a + "\n" + b, a + "\n" + b + remark, a + "\n" + b + remark + "\n"} {
			if l, at, e := lex.Lex(s); e != api.OK || at != 0 || !slices.Equal(bare(l), bare(plain)) {
				t.Fatalf("%q told %v %d %v, wanted %v", s, l, at, e, plain)
			}
		}
	}
	if told < 300 {
		t.Error("too few to tell:", told)
	}
}

// P4.4: tokens, written with a blank behind each, are the same tokens, but that a full stop alone is an End then.
func TestAgain(t *testing.T) {
	from := seeded(4)
	var kinds [api.End + 1]int
	stops := 0
	for range 4000 {
		l, _, e := lex.Lex(from.any())
		if e != api.OK {
			continue
		}
		var s strings.Builder
		var again []api.Token
		for _, k := range l {
			kinds[k.Kind]++
			k.At = s.Len()
			if k.Kind == api.Sym && k.Text == "." {
				k.Kind = api.End
				stops++
			}
			again = append(again, k)
			s.WriteString(written(k) + from.just(blanks))
		}
		want(t, s.String(), again...)
	}
	if slices.Min(kinds[1:]) < 300 || stops < 100 {
		t.Error("too few to tell:", kinds, stops)
	}
}

// P1 and P2: whatever the text, Lex ends, and tells either tokens that may be or an error at a place within the text.
func TestAnything(t *testing.T) {
	from := seeded(5)
	var count [2]int
	for range 20000 {
		s := from.any()
		if from.IntN(4) == 0 {
			s = s[:from.IntN(len(s)+1)]
		}
		l, at, e := lex.Lex(s)
		switch {
		case e == api.OK:
			count[0]++
			for _, k := range l {
				may(t, s, k)
			}
		case l != nil || at >= len(s) || at < 0 || !slices.Contains([]api.Errno{api.ErrBig, api.ErrChar, api.ErrQuote}, e):
			t.Fatalf("%q %v %d %v", s, l, at, e)
		default:
			count[1]++
			// What stands ahead of the place is well by itself.
			right(t, s[:at])
		}
	}
	if min(count[0], count[1]) < 2000 {
		t.Error("too few to tell:", count)
	}
}

// may says what each token keeps to.
func may(t *testing.T, s string, k api.Token) {
	t.Helper()
	long := (k.Kind == api.Name || k.Kind == api.Sym) && len(k.Text) > api.MaxName
	if k.Kind < api.Name || k.Kind > api.End || k.Text == "" || long || k.N < 0 || k.N > api.MaxInt || k.N != 0 && k.Kind != api.Number {
		t.Fatalf("%q %v", s, k)
	}
}

// P3: the same text tells the same, in memory of its own.
func TestSameAgain(t *testing.T) {
	from := seeded(6)
	for range 2000 {
		s := from.any()
		l, at, e := lex.Lex(s)
		keep := slices.Clone(l)
		m, atM, eM := lex.Lex(s)
		for i := range m {
			m[i] = api.Token{Kind: -1}
		}
		if at != atM || e != eM || len(m) != len(l) || !slices.Equal(l, keep) {
			t.Fatalf("%q %v %v", s, l, keep)
		}
		if again, _, _ := lex.Lex(s); !slices.Equal(again, keep) {
			t.Fatalf("%q %v %v", s, again, keep)
		}
	}
}
