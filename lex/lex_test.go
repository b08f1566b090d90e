package lex_test

import (
	"math"
	"strings"
	"testing"

	"sorrel/api"
)

// P4.1: the chapter's examples.
func TestExamples(t *testing.T) {
	want(t, `p(X1) :- \+ q.`, name("p", 0), punct("(", 1), varName("X1", 2), punct(")", 4), sym(":-", 6), sym(`\+`, 9), name("q", 12), end(13))
	want(t, "'it is'=07%", name("it is", 0), sym("=", 7), number("07", 7, 8))
	want(t, "a.b", name("a", 0), sym(".", 1), name("b", 2))
}

// P4.1: blanks and remarks are passed over; a remark ends with a byte 10, or with the text.
func TestPassed(t *testing.T) {
	for _, s := range []string{"", " ", "\t", "\n", "\r", " \t\r\n \n", "%", "% a remark", "%\n", "%%\n\n%", "% 'a\x00\xff\"{\n \r% b\n", strings.Repeat(" ", api.MaxText), "%" + strings.Repeat("'", api.MaxText-1)} {
		want(t, s)
	}
	want(t, " a\tb\nc\rd", name("a", 1), name("b", 3), name("c", 5), name("d", 7))
	want(t, "a%b\nc", name("a", 0), name("c", 4))
	want(t, "a%b\rc", name("a", 0))
	want(t, "%a\n\n%b\nc%", name("c", 7))
	want(t, "1%2\n3", number("1", 1, 0), number("3", 3, 4))
	// Other bytes that elsewhere are blanks are none.
	for _, s := range []string{"\v", "\f", "\x00", "\x85", "\xa0", "\u00a0", "\u2028"} {
		wrong(t, s, 0, api.ErrChar)
		wrong(t, "a "+s, 2, api.ErrChar)
	}
}

// P4.1: names begin with a small letter, have all letters behind it, and at most 12.
func TestNames(t *testing.T) {
	for _, s := range []string{"a", "z", "aA0_z9Z", "twelve_bytes", "e________999"} {
		want(t, s, name(s, 0))
		want(t, "\n"+s+"\n", name(s, 1))
	}
	for c := range 256 {
		if strings.IndexByte(letters, byte(c)) < 0 {
			continue
		}
		s := "b" + string(rune(c)) + "c"
		want(t, s, name(s, 0))
	}
	wrong(t, "thirteen_byte", 0, api.ErrBig)
	wrong(t, "a thirteen_byte b", 2, api.ErrBig)
	wrong(t, strings.Repeat("a", api.MaxText), 0, api.ErrBig)
	want(t, "twelve_bytes'x'", name("twelve_bytes", 0), name("x", 12))
	want(t, "a-b", name("a", 0), sym("-", 1), name("b", 2))
	wrong(t, "a\xc3\xa9", 1, api.ErrChar)
}

// P4.1: a variable's name begins with a great letter or with _, and is as long as it is.
func TestVarNames(t *testing.T) {
	for _, s := range []string{"A", "Z", "_", "__", "_1", "Aa0_z9Z", "Thirteen_byte", "_thirteen_byte", strings.Repeat("X", api.MaxText), strings.Repeat("_", 300)} {
		want(t, s, varName(s, 0))
	}
	want(t, "Aa bA", varName("Aa", 0), name("bA", 3))
	want(t, "7X", number("7", 7, 0), varName("X", 1))
}

// P4.1: digits are a number, up to 2^31 - 1, with any zeros ahead.
func TestNumbers(t *testing.T) {
	for s, n := range map[string]int{
		"0": 0, "9": 9, "07": 7, "10": 10, "000": 0, "0123456789": 123456789, "2147483646": math.MaxInt32 - 1, "2147483647": math.MaxInt32,
		"00000000000000000000000002147483647": math.MaxInt32, strings.Repeat("0", api.MaxText): 0, strings.Repeat("0", api.MaxText-1) + "8": 8,
	} {
		want(t, s, number(s, n, 0))
	}
	for _, s := range []string{
		"2147483648", "4294967295", "4294967296", "4294967297", "9223372036854775807", "9223372036854775808", "18446744073709551615", "18446744073709551616", "18446744073709551617", "36893488147419103232",
		"00000000000000000000000002147483648", strings.Repeat("9", api.MaxText), "1" + strings.Repeat("0", 300), "1" + strings.Repeat("0", 19999),
	} {
		wrong(t, s, 0, api.ErrBig)
	}
	wrong(t, "x 2147483648", 2, api.ErrBig)
	want(t, "-2147483647", sym("-", 0), number("2147483647", math.MaxInt32, 1))
	want(t, "1_000", number("1", 1, 0), varName("_000", 1))
	want(t, "1e3", number("1", 1, 0), name("e3", 1))
	want(t, "1.5", number("1", 1, 0), sym(".", 1), number("5", 5, 2))
	want(t, "0x10", number("0", 0, 0), name("x10", 1))
}

// P4.1: what stands between quotes is a name, of 1 to 12 bytes that are seen.
func TestQuotes(t *testing.T) {
	for _, s := range []string{"a", "A", " ", "~", "it is", "twelve bytes", "%%%%", "...", `\n`, "\"", "()[],|", "12", "{;!`}", "::::::::::::"} {
		want(t, "'"+s+"'", name(s, 0))
		want(t, "x '"+s+"' y", name("x", 0), name(s, 2), name("y", len(s)+5))
	}
	for c := range 256 {
		s := "'a" + string([]byte{byte(c)}) + "b'"
		switch {
		case c == '\'':
			// The quote ends ahead of b, and the last one has no end.
			wrong(t, s, 4, api.ErrQuote)
		case 32 <= c && c <= 126:
			want(t, s, name(s[1:4], 0))
		default:
			wrong(t, s, 0, api.ErrQuote)
			wrong(t, "ab "+s, 3, api.ErrQuote)
		}
	}
	for _, s := range []string{"''", "'", "'a", "'a\n'", "'%\n'", "'thirteen byte'", "'" + strings.Repeat("a", 300) + "'", "'\xc3\xa9'", "''''", "'a\x00'", "'thirteen byte"} {
		wrong(t, s, 0, api.ErrQuote)
	}
	wrong(t, "ab 'c", 3, api.ErrQuote)
	want(t, "'a''b'", name("a", 0), name("b", 3))
	want(t, "a'b'c", name("a", 0), name("b", 1), name("c", 4))
	wrong(t, "a'", 1, api.ErrQuote)
}

// P4.1: these stand each by itself.
func TestPuncts(t *testing.T) {
	want(t, "()[],|", punct("(", 0), punct(")", 1), punct("[", 2), punct("]", 3), punct(",", 4), punct("|", 5))
	want(t, "[]||,,", punct("[", 0), punct("]", 1), punct("|", 2), punct("|", 3), punct(",", 4), punct(",", 5))
	want(t, "+(,-", sym("+", 0), punct("(", 1), punct(",", 2), sym("-", 3))
}

// P4.1: a full stop ahead of a blank, of a remark or of the end is an End; else it is a sign.
func TestFullStops(t *testing.T) {
	for _, s := range []string{" ", "\t", "\n", "\r", "%", "", "%."} {
		want(t, "."+s, end(0))
		want(t, "a."+s, name("a", 0), end(1))
		// Behind a sign it is of that one's.
		want(t, "-."+s, sym("-.", 0))
		want(t, ".."+s, sym("..", 0))
		want(t, "X+."+s, varName("X", 0), sym("+.", 1))
	}
	want(t, ".a", sym(".", 0), name("a", 1))
	want(t, ".'a'", sym(".", 0), name("a", 1))
	want(t, ".(", sym(".", 0), punct("(", 1))
	want(t, ".-", sym(".-", 0))
	want(t, ".7", sym(".", 0), number("7", 7, 1))
	want(t, ". .", end(0), end(2))
	want(t, ".%\n.", end(0), end(3))
	want(t, ".. .", sym("..", 0), end(3))
	want(t, "a.b.", name("a", 0), sym(".", 1), name("b", 2), end(3))
	wrong(t, ".\v", 1, api.ErrChar)
	wrong(t, ".\x00", 1, api.ErrChar)
}

// P4.1: signs that stand together are one, of at most 12.
func TestSigns(t *testing.T) {
	for _, c := range strings.Split(signs, "") {
		s := c + "="
		want(t, s, sym(s, 0))
		want(t, "="+c, sym("="+c, 0))
		want(t, "a"+c+"b", name("a", 0), sym(c, 1), name("b", 2))
		twelve := strings.Repeat("=", 11) + c
		want(t, twelve, sym(twelve, 0))
		wrong(t, twelve+c, 0, api.ErrBig)
		wrong(t, "a\n"+c+strings.Repeat("-", 12), 2, api.ErrBig)
	}
	want(t, strings.Repeat("=", 12)+" =", sym(strings.Repeat("=", 12), 0), sym("=", 13))
	want(t, "=..=.", sym("=..=.", 0))
	wrong(t, strings.Repeat(".", 13), 0, api.ErrBig)
	wrong(t, strings.Repeat("-", api.MaxText), 0, api.ErrBig)
}

// P4.1: each other byte begins nothing, wherever it stands.
func TestChars(t *testing.T) {
	known := blanks + letters + signs + puncts + "%'"
	others := 0
	for c := range 256 {
		s := string([]byte{byte(c)})
		if strings.Contains(known, s) {
			continue
		}
		others++
		wrong(t, s, 0, api.ErrChar)
		wrong(t, "a"+s, 1, api.ErrChar)
		wrong(t, "p(X). 'q' "+s+" r", 10, api.ErrChar)
		want(t, "%"+s+"\na", name("a", 3))
	}
	if others != 256-4-63-17-6-2 {
		t.Error("the test is wrong:", others)
	}
}

// P4.1: a text of 20000 bytes is gone through, and one of 20001 is not looked at.
func TestLength(t *testing.T) {
	var l []api.Token
	for at := range api.MaxText / 2 {
		l = append(l, name("a", 2*at))
	}
	want(t, strings.Repeat("a ", api.MaxText/2), l...)
	wrong(t, strings.Repeat("a ", api.MaxText/2)+" ", 0, api.ErrBig)
	wrong(t, strings.Repeat("{", api.MaxText), 0, api.ErrChar)
	wrong(t, strings.Repeat("{", api.MaxText+1), 0, api.ErrBig)
	wrong(t, strings.Repeat("'", api.MaxText+1), 0, api.ErrBig)
	wrong(t, strings.Repeat(" ", api.MaxText-1)+"{", api.MaxText-1, api.ErrChar)
	wrong(t, strings.Repeat(" ", api.MaxText)+"{", 0, api.ErrBig)
	wrong(t, strings.Repeat("a", 1<<20), 0, api.ErrBig)
}

// P4.1 and P2: of several errors the first one is told, where its token begins, and no tokens.
func TestFirstError(t *testing.T) {
	wrong(t, "p(X) :- q(thirteen_byte), {", 10, api.ErrBig)
	wrong(t, "p(X) :- q({), thirteen_byte", 10, api.ErrChar)
	wrong(t, "a. b. 'c", 6, api.ErrQuote)
	wrong(t, "'thirteen byte' 2147483648", 0, api.ErrQuote)
	wrong(t, "2147483648 ''", 0, api.ErrBig)
	wrong(t, "% '\n '", 5, api.ErrQuote)
	wrong(t, "a 'b' =============", 6, api.ErrBig)
}
