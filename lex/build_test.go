package lex_test

import (
	"math/rand/v2"
	"slices"
	"strings"
	"testing"

	"sorrel/api"
	"sorrel/lex"
)

func token(kind int, text string, at int) api.Token {
	return api.Token{Kind: kind, Text: text, At: at}
}

func name(text string, at int) api.Token { return token(api.Name, text, at) }

func varName(text string, at int) api.Token { return token(api.VarName, text, at) }

func number(text string, n int, at int) api.Token {
	return api.Token{Kind: api.Number, Text: text, N: n, At: at}
}

func sym(text string, at int) api.Token { return token(api.Sym, text, at) }

func punct(text string, at int) api.Token { return token(api.Punct, text, at) }

func end(at int) api.Token { return token(api.End, ".", at) }

// want asks for the tokens of a text.
func want(t *testing.T, s string, l ...api.Token) {
	t.Helper()
	if got, at, e := lex.Lex(s); !slices.Equal(got, l) || at != 0 || e != api.OK {
		t.Errorf("of %.60q told %v %d %v, wanted %v", s, got, at, e, l)
	}
}

// wrong asks for an error, its place, and nothing beside them.
func wrong(t *testing.T, s string, at int, e api.Errno) {
	t.Helper()
	if l, gotAt, got := lex.Lex(s); l != nil || gotAt != at || got != e {
		t.Errorf("of %.60q told %v %d %v, wanted %d %v", s, l, gotAt, got, at, e)
	}
}

// right are the tokens of a text that must have them.
func right(t *testing.T, s string) []api.Token {
	t.Helper()
	l, at, e := lex.Lex(s)
	if e != api.OK {
		t.Fatalf("the test is wrong: %q %d %v", s, at, e)
	}
	return l
}

// moved are tokens as many places further on.
func moved(l []api.Token, by int) []api.Token {
	l = slices.Clone(l)
	for i := range l {
		l[i].At += by
	}
	return l
}

// bare are tokens without their places.
func bare(l []api.Token) []api.Token {
	l = slices.Clone(l)
	for i := range l {
		l[i].At = 0
	}
	return l
}

const (
	blanks  = " \t\n\r"
	smalls  = "abcdefghijklmnopqrstuvwxyz"
	greats  = "ABCDEFGHIJKLMNOPQRSTUVWXYZ_"
	digits  = "0123456789"
	letters = smalls + greats + digits
	signs   = `+-*/\^<>=~:?@#&$.`
	puncts  = "()[],|"
)

// source makes texts from a fixed seed.
type source struct{ *rand.Rand }

func seeded(n uint64) source { return source{rand.New(rand.NewPCG(n, 41))} }

// some are up to so many bytes of those given.
func (from source) some(bytes string, most int) string {
	var s strings.Builder
	for range from.IntN(most + 1) {
		s.WriteByte(bytes[from.IntN(len(bytes))])
	}
	return s.String()
}

// just is one byte of those given.
func (from source) just(bytes string) string {
	at := from.IntN(len(bytes))
	return bytes[at : at+1]
}

// piece is a token's text as it may be written, or a piece that is passed over; none of them is wrong.
func (from source) piece() string {
	switch from.IntN(11) {
	case 0:
		return from.just(smalls) + from.some(letters, 11)
	case 1:
		return from.just(greats) + from.some(letters, 20)
	case 2:
		return from.some("0", 3) + from.some(digits, 8) + from.just(digits)
	case 3:
		return from.just(signs) + from.some(signs, 4)
	case 4:
		return from.just(puncts)
	case 5:
		return "." + from.just(blanks)
	case 6:
		return "'" + from.just("aZ. %-9!\"{~") + from.some(letters+signs+puncts+" %\"!{}`;", 11) + "'"
	case 7:
		return "%" + from.some(letters+signs+"'\"{\x00\xff", 6) + "\n"
	case 8:
		return from.just(signs)
	case 9:
		return "." + from.just(letters+"(")
	}
	return from.just(blanks) + from.some(blanks, 2)
}

// text is some pieces, one behind the other, mostly with a blank between.
func (from source) text() string {
	var s strings.Builder
	for range from.IntN(12) {
		s.WriteString(from.piece())
		if from.IntN(3) > 0 {
			s.WriteString(from.just(blanks))
		}
	}
	return s.String()
}

// line is a text of one line, which may be wrong.
func (from source) line() string {
	return strings.ReplaceAll(from.text(), "\n", from.just(" ;"))
}

// any is a text of which nothing is sure.
func (from source) any() string {
	s := []byte(from.text())
	for range from.IntN(4) {
		if len(s) > 0 {
			s[from.IntN(len(s))] = byte(from.IntN(256))
		}
	}
	return string(s)
}
