package scan_test

import (
	"bytes"
	"encoding/hex"
	"math"
	"math/rand"
	"regexp"
	"slices"
	"strconv"
	"strings"
	"testing"

	"mezzotint/api"
	"mezzotint/dec"
	"mezzotint/scan"
)

// read is what Next answers, the place and the error included.
type read struct {
	t    api.Token
	next int
	e    api.Errno
}

func next(s string, at int) read {
	t, n, e := scan.Next([]byte(s), at)
	return read{t, n, e}
}

func name(s string) api.Token    { return api.Token{Kind: api.TokName, Text: s} }
func literal(s string) api.Token { return api.Token{Kind: api.TokLiteral, Text: s} }
func now(s string) api.Token     { return api.Token{Kind: api.TokNow, Text: s} }
func text(s string) api.Token    { return api.Token{Kind: api.TokString, Text: s} }
func whole(n int) api.Token      { return api.Token{Kind: api.TokInt, N: n} }
func realOf(n int) api.Token     { return api.Token{Kind: api.TokReal, N: n} }

var (
	end    = api.Token{Kind: api.TokEnd}
	opened = api.Token{Kind: api.TokOpen}
	closed = api.Token{Kind: api.TokClose}
)

func refused(e api.Errno) read { return read{e: e} }

// brief is a token as it can be told, however long it is.
func brief(u api.Token) api.Token {
	if len(u.Text) > 80 {
		u.Text = u.Text[:80] + ".. (" + strconv.Itoa(len(u.Text)) + ")"
	}
	return u
}

// checkWhole asks whether s is one token, from its beginning to its end.
func checkWhole(t *testing.T, s string, want api.Token) {
	t.Helper()
	if g := next(s, 0); g != (read{want, len(s), api.OK}) {
		t.Errorf("Next(%.80q): %+v %d %d, not %+v", s, brief(g.t), g.next, g.e, brief(want))
	}
}

func checkRefused(t *testing.T, s string, e api.Errno) {
	t.Helper()
	if g := next(s, 0); g != refused(e) {
		t.Errorf("Next(%.80q): %+v %d %d, not %d", s, brief(g.t), g.next, g.e, e)
	}
}

// placed is a token and the place behind it.
type placed struct {
	t    api.Token
	next int
}

// checkProgram asks for the tokens of s one behind the other.
func checkProgram(t *testing.T, s string, list []placed) {
	t.Helper()
	at := 0
	for i, want := range list {
		g := next(s, at)
		if g != (read{want.t, want.next, api.OK}) {
			t.Fatalf("Next(%q, %d), token %d: %v, not %v", s, at, i, g, want)
		}
		at = g.next
	}
}

// P4.1: ordinary programs, one token behind the other, up to the end, and there once more.
func TestPrograms(t *testing.T) {
	checkProgram(t, "10 10 moveto 20.5 -20 lineto stroke showpage", []placed{
		{whole(10), 2}, {whole(10), 5}, {name("moveto"), 12}, {realOf(20*65536 + 32768), 17}, {whole(-20), 21},
		{name("lineto"), 28}, {name("stroke"), 35}, {name("showpage"), 44}, {end, 44}, {end, 44},
	})
	checkProgram(t, "%!PS\n/sq{dup mul}bind def%sq\n{(a(b))<41>}[1]<</K//v>> ", []placed{
		{literal("sq"), 8}, {opened, 9}, {name("dup"), 12}, {name("mul"), 16}, {closed, 17}, {name("bind"), 21}, {name("def"), 25},
		{opened, 30}, {text("a(b)"), 36}, {text("A"), 40}, {closed, 41}, {name("["), 42}, {whole(1), 43}, {name("]"), 44},
		{name("<<"), 46}, {literal("K"), 48}, {now("v"), 51}, {name(">>"), 53}, {end, 54}, {end, 54},
	})
	checkProgram(t, "", []placed{{end, 0}, {end, 0}})
	checkProgram(t, " \t", []placed{{end, 2}})
}

// P4.1: the document's examples.
func TestExamples(t *testing.T) {
	checkWhole(t, `(a\(b\)(c))`, text("a(b)(c)"))
	checkWhole(t, "16#ff", whole(255))
	checkWhole(t, "1.x", name("1.x"))
}

// P4.1: at may be anywhere, also within what was a token from its beginning.
func TestPlaces(t *testing.T) {
	const s = " abc (d e)"
	for at, want := range []read{
		{name("abc"), 4, 0}, {name("abc"), 4, 0}, {name("bc"), 4, 0}, {name("c"), 4, 0},
		{text("d e"), 10, 0}, {text("d e"), 10, 0}, {name("d"), 7, 0}, {name("e"), 9, 0}, {name("e"), 9, 0}, refused(api.SyntaxError), {end, 10, 0},
	} {
		if g := next(s, at); g != want {
			t.Errorf("Next(%q, %d): %v, not %v", s, at, g, want)
		}
	}
}

// P4.1: a place below 0 or above the length, whatever the bytes are.
func TestWrongPlaces(t *testing.T) {
	for _, s := range []string{"", "a", "(", ")", "123 456"} {
		for _, at := range []int{-1, -2, math.MinInt, len(s) + 1, len(s) + 2, math.MaxInt} {
			if g := next(s, at); g != refused(api.ErrArg) {
				t.Errorf("Next(%q, %d): %v", s, at, g)
			}
		}
	}
	// What lies behind the length is not b's.
	b := []byte("abcdef")[:3]
	if _, _, e := scan.Next(b, 4); e != api.ErrArg {
		t.Errorf("a place in spare room: %d", e)
	}
	if u, n, e := scan.Next(b, 0); u != name("abc") || n != 3 || e != api.OK {
		t.Errorf("bytes ahead of spare room: %v %d %d", u, n, e)
	}
	if u, n, e := scan.Next(nil, 0); u != end || n != 0 || e != api.OK {
		t.Errorf("nil: %v %d %d", u, n, e)
	}
	for _, at := range []int{-1, 1} {
		if u, n, e := scan.Next(nil, at); u != end || n != 0 || e != api.ErrArg {
			t.Errorf("nil at %d: %v %d %d", at, u, n, e)
		}
	}
}

const (
	blanks     = "\x00\t\n\f\r "
	delimiters = "()<>[]{}/%"
)

// P4.1, and the chapter's words: each byte is a blank, a delimiter, or regular.
func TestEachByte(t *testing.T) {
	for i := range 256 {
		c := string([]byte{byte(i)})
		s := "a" + c + "b"
		switch {
		case strings.Contains(blanks, c):
			checkProgram(t, s, []placed{{name("a"), 1}, {name("b"), 3}, {end, 3}})
			checkWhole(t, c, end)
			checkProgram(t, c+"b", []placed{{name("b"), 2}})
		case strings.Contains(delimiters, c):
			checkProgram(t, s, []placed{{name("a"), 1}})
			checkProgram(t, "/"+s, []placed{{literal("a"), 2}})
			checkProgram(t, "//"+s, []placed{{now("a"), 3}})
			checkProgram(t, "7"+c, []placed{{whole(7), 1}})
		default:
			checkWhole(t, s, name(s))
			checkWhole(t, "/"+s, literal(s))
			checkWhole(t, "//"+s, now(s))
			if i < '0' || i > '9' {
				checkWhole(t, c, name(c))
			}
		}
	}
}

// P4.1: each delimiter alone, and two of them side by side.
func TestDelimiters(t *testing.T) {
	checkWhole(t, "{", opened)
	checkWhole(t, "}", closed)
	for _, s := range []string{"[", "]", "<<", ">>"} {
		checkWhole(t, s, name(s))
		checkProgram(t, s+"x", []placed{{name(s), len(s)}, {name("x"), len(s) + 1}})
		checkProgram(t, s+s, []placed{{name(s), len(s)}, {name(s), 2 * len(s)}})
	}
	checkProgram(t, "{}{{", []placed{{opened, 1}, {closed, 2}, {opened, 3}, {opened, 4}, {end, 4}})
	checkProgram(t, "[][[", []placed{{name("["), 1}, {name("]"), 2}, {name("["), 3}, {name("["), 4}, {end, 4}})
	checkProgram(t, "<<<4>>>", []placed{{name("<<"), 2}, {text("@"), 5}, {name(">>"), 7}, {end, 7}})
	checkProgram(t, "<<41>>", []placed{{name("<<"), 2}, {whole(41), 4}, {name(">>"), 6}, {end, 6}})
	for _, s := range []string{")", ">", "> >", "> ", ">a", ") ", "))", ">)", ")(a)", ">(a)", ">%>", " )", "\n>", "%x\n)", "%x\n>"} {
		checkRefused(t, s, api.SyntaxError)
	}
	if g := next(">>>", 2); g != refused(api.SyntaxError) {
		t.Errorf("a third >: %v", g)
	}
}

// P4.1: / and //, also with no regular bytes behind.
func TestSlashes(t *testing.T) {
	checkWhole(t, "/a", literal("a"))
	checkWhole(t, "//a", now("a"))
	checkWhole(t, "/", literal(""))
	checkWhole(t, "//", now(""))
	checkProgram(t, "/ a", []placed{{literal(""), 1}, {name("a"), 3}})
	checkProgram(t, "// a", []placed{{now(""), 2}, {name("a"), 4}})
	checkProgram(t, "/ /a", []placed{{literal(""), 1}, {literal("a"), 4}})
	checkProgram(t, "///a", []placed{{now(""), 2}, {literal("a"), 4}})
	checkProgram(t, "////a", []placed{{now(""), 2}, {now("a"), 5}})
	checkProgram(t, "/a/b//c", []placed{{literal("a"), 2}, {literal("b"), 4}, {now("c"), 7}})
	checkProgram(t, "/{//}", []placed{{literal(""), 1}, {opened, 2}, {now(""), 4}, {closed, 5}})
	checkProgram(t, "/(a)/[/<<", []placed{{literal(""), 1}, {text("a"), 4}, {literal(""), 5}, {name("["), 6}, {literal(""), 7}, {name("<<"), 9}})
	checkProgram(t, "/%a\nb", []placed{{literal(""), 1}, {name("b"), 5}})
	// What would be a number elsewhere, also one that is too great, is a name here.
	for _, s := range []string{"1", "-1.5", "16#ff", "2147483648", "1e999", "\\", "\x01\xff"} {
		checkWhole(t, "/"+s, literal(s))
		checkWhole(t, "//"+s, now(s))
	}
}

// P4.1: numbers and names are told apart by chapter 2's Token, whose error is answered.
func TestNumbers(t *testing.T) {
	for s, want := range map[string]api.Token{
		"0": whole(0), "-1": whole(-1), "+7": whole(7), "2147483647": whole(1<<31 - 1), "-2147483648": whole(-1 << 31), "16#FFFFFFFF": whole(-1), "36#z": whole(35),
		"1.": realOf(65536), ".5": realOf(32768), "1e-1": realOf(6554), "-32768.0": realOf(-1 << 31), "1E0": realOf(65536),
		"+": name("+"), "-": name("-"), ".": name("."), "1-": name("1-"), "1e": name("1e"), "1e1000": name("1e1000"), "2#2": name("2#2"), "16#": name("16#"), "#": name("#"), "--1": name("--1"), "1_0": name("1_0"), "1\\2": name("1\\2"), "add": name("add"), "=": name("="), "a\"b'c": name("a\"b'c"),
	} {
		checkWhole(t, s, want)
		checkProgram(t, s+" x", []placed{{want, len(s)}})
		checkProgram(t, s+"(", []placed{{want, len(s)}})
		checkProgram(t, s+"%", []placed{{want, len(s)}})
	}
	for _, s := range []string{"2147483648", "-2147483649", "16#100000000", "32768.0", "-32769.0", "1e5", "1e999", strings.Repeat("9", 64)} {
		checkRefused(t, s, api.LimitCheck)
		checkRefused(t, " %x\n"+s+" 1", api.LimitCheck)
	}
	// Beyond 64 bytes a number is a name.
	checkWhole(t, strings.Repeat("0", 64), whole(0))
	for _, s := range []string{strings.Repeat("0", 65), strings.Repeat("9", 65), strings.Repeat("1", api.MaxName)} {
		checkWhole(t, s, name(s))
	}
}

// P4.1: comments, by what they end with.
func TestComments(t *testing.T) {
	for _, ending := range []string{"\n", "\r", "\f", "\r\n"} {
		for _, comment := range []string{"%", "%a", "%%", "%!PS", "% (", "%)>]}", "%\x00\t 1", "%\x0b\xff"} {
			s := comment + ending
			checkWhole(t, s, end)
			checkProgram(t, s+"x", []placed{{name("x"), len(s) + 1}, {end, len(s) + 1}})
			checkProgram(t, s+s+"x", []placed{{name("x"), 2*len(s) + 1}})
			checkProgram(t, s+" \t"+s+"(x)", []placed{{text("x"), 2*len(s) + 5}})
			checkProgram(t, "a"+s+"b", []placed{{name("a"), 1}, {name("b"), len(s) + 2}})
			checkProgram(t, "1"+s+"2", []placed{{whole(1), 1}, {whole(2), len(s) + 2}})
		}
	}
	for _, s := range []string{"%", "%a", "%a b (", "% \t", " %x", "%a\n%b", "%\x0b\x00\t a"} {
		checkWhole(t, s, end)
	}
	checkProgram(t, "a%b", []placed{{name("a"), 1}, {end, 3}})
	// Within a string there is none.
	checkWhole(t, "(a%b)", text("a%b"))
	checkWhole(t, "(%\n)", text("%\n"))
	checkWhole(t, "(%)", text("%"))
}

// P4.1: strings, and brackets within them.
func TestStrings(t *testing.T) {
	for s, want := range map[string]string{
		"()": "", "(a)": "a", "( a  b )": " a  b ", "(())": "()", "(()())": "()()", "((()))": "(())", "(a(b)c)": "a(b)c", "(a(b(c)d)e)": "a(b(c)d)e",
		`(\))`: ")", `(\()`: "(", `(\)\()`: ")(", `(a\(b\)(c))`: "a(b)(c)", `((\)))`: "())", `((\())`: "(()", `(\\)`: `\`, `(\\\))`: `\)`, `(a\\(b)\\)`: `a\(b)\`,
		"(<41>{}[]/%x)": "<41>{}[]/%x", "(\x00\x01\x7f\x80\xff)": "\x00\x01\x7f\x80\xff", "(\t\f\b)": "\t\f\b", "(é)": "é",
	} {
		checkWhole(t, s, text(want))
		checkProgram(t, s+"x", []placed{{text(want), len(s)}, {name("x"), len(s) + 1}})
		checkProgram(t, s+s, []placed{{text(want), len(s)}, {text(want), 2 * len(s)}})
	}
	checkProgram(t, "(a))", []placed{{text("a"), 3}})
	if g := next("(a))", 3); g != refused(api.SyntaxError) {
		t.Errorf("a ) too many: %v", g)
	}
	deep := strings.Repeat("(", 30000) + strings.Repeat(")", 30000)
	checkWhole(t, deep, text(deep[1:len(deep)-1]))
}

// P4.1: strings without an end.
func TestStringsWithoutEnd(t *testing.T) {
	for _, s := range []string{
		"(", "(a", "(a b c", "((", "(()", "((a)", "(a(b)", "(\\", "(a\\", "(\\)", "(a\\)", "(\\\\\\)", "(\\1", "(\\12", "(\\123", "(\\1234", "(\\n", "(\\\n", "(\\\r", "(\\\r\n", "(\r", "(\r\n", "(\n", "(%\n", "(((((a))))",
		strings.Repeat("(", 30000) + strings.Repeat(")", 29999) + strings.Repeat("\\\n", 100000),
	} {
		checkRefused(t, s, api.SyntaxError)
		checkRefused(t, " %\n"+s, api.SyntaxError)
	}
}

// P4.1: each byte by itself, and each byte behind a \.
func TestStringBytes(t *testing.T) {
	behind := map[byte]string{'n': "\x0a", 'r': "\x0d", 't': "\x09", 'b': "\x08", 'f': "\x0c", '\n': "", '\r': ""}
	for i := range 256 {
		c := string([]byte{byte(i)})
		switch c {
		case "(", ")", "\\":
		case "\r":
			checkWhole(t, "(x\ry)", text("x\ny"))
		default:
			checkWhole(t, "(x"+c+"y)", text("x"+c+"y"))
		}
		want, ok := behind[byte(i)]
		if !ok {
			want = c
		}
		if i >= '0' && i <= '7' {
			want = string([]byte{byte(i - '0')})
		}
		checkWhole(t, "(x\\"+c+"y)", text("x"+want+"y"))
		checkWhole(t, "(\\"+c+")", text(want))
	}
	checkWhole(t, `(\N\R\T\B\F\a\v\x\")`, text(`NRTBFavx"`))
}

// P4.1: all numbers of one to three digits from 0 to 7, and what is behind them.
func TestOctal(t *testing.T) {
	for n := range 512 {
		byteOf := string([]byte{byte(n % 256)})
		three := strconv.FormatInt(int64(512+n), 8)[1:]
		forms := []string{three}
		if n < 64 {
			forms = append(forms, three[1:])
		}
		if n < 8 {
			forms = append(forms, three[2:])
		}
		for _, digits := range forms {
			checkWhole(t, "(\\"+digits+")", text(byteOf))
			for _, tail := range []string{"8", "9", "a", "/", ":", " ", "()", "-1", "é"} {
				checkWhole(t, "(\\"+digits+tail+")", text(byteOf+tail))
			}
			checkWhole(t, "(\\"+digits+"\\"+digits+")", text(byteOf+byteOf))
		}
		for d := range 8 {
			checkWhole(t, "(\\"+three+strconv.Itoa(d)+")", text(byteOf+strconv.Itoa(d)))
		}
	}
	for s, want := range map[string]string{
		`(\400)`: "\x00", `(\401)`: "\x01", `(\777)`: "\xff", `(\377)`: "\xff", `(\0)`: "\x00", `(\00)`: "\x00", `(\000)`: "\x00", `(\0000)`: "\x000", `(\1234)`: "S4",
		`(\8)`: "8", `(\9)`: "9", `(\81)`: "81", `(\18)`: "\x018", `(\128)`: "\n8", `(\50)`: "(", `(\51)`: ")", `(\134n)`: `\n`, `(\015)`: "\r", `(\1\2)`: "\x01\x02",
	} {
		checkWhole(t, s, text(want))
	}
}

// P4.1: each kind of line's end, with and without \.
func TestLineEnds(t *testing.T) {
	for s, want := range map[string]string{
		"(a\nb)": "a\nb", "(a\rb)": "a\nb", "(a\r\nb)": "a\nb", "(a\n\rb)": "a\n\nb", "(a\r\rb)": "a\n\nb", "(a\n\nb)": "a\n\nb", "(a\r\r\nb)": "a\n\nb", "(a\r\n\nb)": "a\n\nb", "(a\r\n\r\nb)": "a\n\nb", "(a\fb)": "a\fb",
		"(\r)": "\n", "(\r\n)": "\n", "(\n)": "\n", "(a\r(\r\n))": "a\n(\n)",
		"(a\\\nb)": "ab", "(a\\\rb)": "ab", "(a\\\r\nb)": "ab", "(a\\\n\rb)": "a\nb", "(a\\\n\nb)": "a\nb", "(a\\\r\rb)": "a\nb", "(a\\\r\n\nb)": "a\nb", "(a\\\r\n\rb)": "a\nb", "(a\\\r\\\nb)": "ab", "(a\\\fb)": "a\fb",
		"(\\\n)": "", "(\\\r)": "", "(\\\r\n)": "", "(a\\\\\nb)": "a\\\nb", "(a\\\\\r\nb)": "a\\\nb",
		// Those that are written are bytes, and not a line's end.
		`(\r\n)`: "\r\n", `(\15\12)`: "\r\n", "(\\r\n)": "\r\n", "(\\15\n)": "\r\n", "(\r\\n)": "\n\n",
	} {
		checkWhole(t, s, text(want))
	}
}

// P4.1: hexadecimal strings.
func TestHex(t *testing.T) {
	for s, want := range map[string]string{
		"<>": "", "< >": "", "<\x00\t\n\f\r >": "", "<41>": "A", "<4142>": "AB", "<4>": "@", "<0>": "\x00", "<f>": "\xf0", "<414>": "A@", "<4 1>": "A", "< 4 1 4 >": "A@", "<4\n1\r\n4\x002\t4\f3>": "ABC",
		"<00>": "\x00", "<ff>": "\xff", "<FF>": "\xff", "<fF>": "\xff", "<Ff>": "\xff", "<0123456789abcdefABCDEF>": "\x01\x23\x45\x67\x89\xab\xcd\xef\xab\xcd\xef", "<4a4>": "J@",
	} {
		checkWhole(t, s, text(want))
		checkProgram(t, s+"x", []placed{{text(want), len(s)}, {name("x"), len(s) + 1}})
		checkProgram(t, s+s, []placed{{text(want), len(s)}, {text(want), 2 * len(s)}})
		if s != "<>" {
			checkRefused(t, s[:len(s)-1], api.SyntaxError)
		}
	}
	for i := range 256 {
		s := hex.EncodeToString([]byte{byte(i)})
		checkWhole(t, "<"+s+">", text(string([]byte{byte(i)})))
		checkWhole(t, "<"+strings.ToUpper(s)+">", text(string([]byte{byte(i)})))
	}
}

// P4.1: other bytes among hexadecimal digits, and no end.
func TestHexRefused(t *testing.T) {
	for i := range 256 {
		c := string([]byte{byte(i)})
		if strings.Contains("0123456789abcdefABCDEF>"+blanks, c) {
			continue
		}
		if c != "<" {
			checkRefused(t, "<"+c+">", api.SyntaxError)
		}
		for _, s := range []string{"<4" + c + ">", "<41" + c + ">", "<4" + c + "1>", "< " + c + ">", "<41" + c + "42>", "<4" + c, "<4" + c + "\n>"} {
			checkRefused(t, s, api.SyntaxError)
		}
	}
	for _, s := range []string{"<", "<4", "<41", "< ", "<41 ", "<414\n", "<g", "<4g>", "<4x41>", "<~41~>", "< <", "<4<", "<(a)>", "<4/>", "<é>"} {
		checkRefused(t, s, api.SyntaxError)
		checkRefused(t, "% \n "+s, api.SyntaxError)
	}
}

// P4.1: names that are just as long as may be, and longer by one.
func TestLongNames(t *testing.T) {
	for _, c := range []string{"a", "1", "\xff", "+"} {
		s := strings.Repeat(c, api.MaxName)
		for ahead, want := range map[string]api.Token{"": name(s), "/": literal(s), "//": now(s)} {
			checkWhole(t, ahead+s, want)
			for _, behind := range []string{" ", "/", "(", "%", "\x00"} {
				checkProgram(t, ahead+s+behind, []placed{{want, len(ahead + s)}})
			}
			checkRefused(t, ahead+s+c, api.LimitCheck)
			checkRefused(t, ahead+s+c+" ", api.LimitCheck)
			checkRefused(t, ahead+s+s+s, api.LimitCheck)
			checkRefused(t, " "+ahead+s+c+")", api.LimitCheck)
		}
	}
	checkRefused(t, strings.Repeat("a", 1<<20), api.LimitCheck)
}

// P4.1: strings that are just as long as may be, and longer by one, in bytes of what they say.
func TestLongStrings(t *testing.T) {
	full := strings.Repeat("a", api.MaxString)
	checkWhole(t, "("+full+")", text(full))
	checkWhole(t, "("+full+"\\\n\\\r\n)", text(full))
	checkWhole(t, "("+strings.Repeat(`\141`, api.MaxString)+")", text(full))
	checkWhole(t, "("+strings.Repeat("\r\n", api.MaxString)+")", text(strings.Repeat("\n", api.MaxString)))
	checkWhole(t, "<"+strings.Repeat("61", api.MaxString)+">", text(full))
	checkWhole(t, "<"+strings.Repeat("6 1\n", api.MaxString)+">", text(full))
	checkWhole(t, "<"+strings.Repeat("61", api.MaxString-1)+"6>", text(full[1:]+"`"))
	checkWhole(t, "(()"+full[2:]+")", text("()"+full[2:]))
	for _, s := range []string{
		"(" + full + "a)", "(" + full + "\n)", "(" + full + `\n)`, "(" + full + `\1)`, "(" + full + `\))`, "(" + full + "())", "((" + full[1:] + "))", "(" + full + "\r\n)",
		"<" + strings.Repeat("61", api.MaxString) + "6>", "<" + strings.Repeat("61", api.MaxString+1) + ">", "(" + full + full + full + ")",
	} {
		checkRefused(t, s, api.LimitCheck)
		checkRefused(t, " "+s+" x", api.LimitCheck)
	}
}

// R2: of a string that is too long, and wrong behind that, the length is come to first; of one that is
// wrong ahead of that, what is wrong.
func TestWhichError(t *testing.T) {
	full := strings.Repeat("a", api.MaxString)
	checkRefused(t, "("+full+"a", api.LimitCheck)
	checkRefused(t, "("+full, api.SyntaxError)
	checkRefused(t, "("+full+"\\", api.SyntaxError)
	checkRefused(t, "<"+full+full+"aag>", api.LimitCheck)
	checkRefused(t, "<"+full+full+"aa", api.LimitCheck)
	checkRefused(t, "<"+full+full+"g", api.SyntaxError)
	checkRefused(t, "<g"+full+full+"aa>", api.SyntaxError)
}

// P4.2: lines of %% and %!.
func TestStructure(t *testing.T) {
	for s, want := range map[string][]string{
		"":                                nil,
		"a":                               nil,
		"%":                               nil,
		"%a":                              nil,
		"% %a":                            nil,
		"!%a":                             nil,
		"!!a":                             nil,
		"%\n%":                            nil,
		"%\n!a":                           nil,
		"%\r%a":                           nil,
		" %%a":                            nil,
		"a%%b":                            nil,
		"\f%%a":                           nil,
		"\x00%%a":                         nil,
		"\t%!a":                           nil,
		"a\n %%b\r %!c":                   nil,
		"%%":                              {""},
		"%!":                              {""},
		"%%\n":                            {""},
		"%!\r":                            {""},
		"%%\n%!":                          {"", ""},
		"%%\r%%\n%!\r\n%%":                {"", "", "", ""},
		"%%a":                             {"a"},
		"%!a":                             {"a"},
		"%%%":                             {"%"},
		"%%%%":                            {"%%"},
		"%!%%a":                           {"%%a"},
		"%%a%%b":                          {"a%%b"},
		"%!!":                             {"!"},
		"\n%%a":                           {"a"},
		"\r%%a":                           {"a"},
		"\r\n%%a":                         {"a"},
		"\n\r%%a":                         {"a"},
		"\n\n%!a\r\r%%b":                  {"a", "b"},
		"%%a\n%%b\r%%c\r\n%%d":            {"a", "b", "c", "d"},
		"%%b\n%%a\n%%b\n":                 {"b", "a", "b"},
		"%% a  \n":                        {" a  "},
		"%%a\f%%b\n":                      {"a\f%%b"},
		"%%a\x00\x0b\xff\tb\nc":           {"a\x00\x0b\xff\tb"},
		"%!PS-Adobe-3.0\n%%Title: x\n1 2": {"PS-Adobe-3.0", "Title: x"},
		"%!PS\n%c\n%%Page: 1 1\nshowpage %%x\n%%EOF": {"PS", "Page: 1 1", "EOF"},
		// A line is one within a string, too.
		"(\n%%a\n)": {"a"},
		"(\r%!a)":   {"a)"},
	} {
		if g := scan.Structure([]byte(s)); !slices.Equal(g, want) {
			t.Errorf("Structure(%q): %q, not %q", s, g, want)
		}
	}
	if g := scan.Structure(nil); len(g) != 0 {
		t.Errorf("Structure(nil): %q", g)
	}
	if g := scan.Structure([]byte("%%ab\n%%cd")[:3]); !slices.Equal(g, []string{"a"}) {
		t.Errorf("Structure ahead of spare room: %q", g)
	}
	// No bound is told of what a line has.
	long := strings.Repeat("x", 1<<20)
	if g := scan.Structure([]byte("%%" + long)); !slices.Equal(g, []string{long}) {
		t.Errorf("Structure of a long line: %d", len(g))
	}
}

var (
	formSkipped = regexp.MustCompile("^(?:[\\x00\\t\\n\\f\\r ]|%[^\\n\\r\\f]*)*")
	formRegular = regexp.MustCompile("^[^\\x00\\t\\n\\f\\r ()<>\\[\\]{}/%]*")
	formHex     = regexp.MustCompile("^<([0-9a-fA-F\\x00\\t\\n\\f\\r ]*)>")
	formBlank   = regexp.MustCompile("[\\x00\\t\\n\\f\\r ]")
	formEscape  = regexp.MustCompile("\\\\[0-7]{1,3}|\\\\\\r\\n?|(?s:\\\\.)|\\r\\n?")
	formLine    = regexp.MustCompile("\\r\\n|\\r|\\n")
)

// plainEscape is what one of formEscape's stands for.
func plainEscape(s string) string {
	switch s {
	case `\n`, `\r`, `\t`, `\b`, `\f`:
		u, _ := strconv.Unquote(`"` + s + `"`)
		return u
	case "\\\n", "\\\r", "\\\r\n":
		return ""
	case "\r", "\r\n":
		return "\n"
	}
	if n, err := strconv.ParseUint(s[1:], 8, 16); err == nil {
		return string([]byte{byte(n)})
	}
	return s[1:]
}

// bracketEnd is the place behind the ) that belongs to the ( at s's beginning, or -1.
func bracketEnd(s string) int {
	open := 0
	for i := 0; i < len(s); i++ {
		switch s[i] {
		case '\\':
			i++
		case '(':
			open++
		case ')':
			open--
			if open == 0 {
				return i + 1
			}
		}
	}
	return -1
}

// plainToken reads the token at s's beginning, where neither a blank nor a comment stands, by forms.
func plainToken(s string) read {
	regular := func(ahead string) string { return formRegular.FindString(s[len(ahead):]) }
	switch {
	case s == "":
		return read{}
	case s[0] == '(':
		n := bracketEnd(s)
		if n < 0 {
			return refused(api.SyntaxError)
		}
		return read{text(formEscape.ReplaceAllStringFunc(s[1:n-1], plainEscape)), n, api.OK}
	case strings.HasPrefix(s, "<<"), strings.HasPrefix(s, ">>"):
		return read{name(s[:2]), 2, api.OK}
	case s[0] == '<':
		m := formHex.FindStringSubmatch(s)
		if m == nil {
			return refused(api.SyntaxError)
		}
		digits := formBlank.ReplaceAllString(m[1], "")
		b, _ := hex.DecodeString(digits + strings.Repeat("0", len(digits)%2))
		return read{text(string(b)), len(m[0]), api.OK}
	case s[0] == '>', s[0] == ')':
		return refused(api.SyntaxError)
	case s[0] == '{':
		return read{opened, 1, api.OK}
	case s[0] == '}':
		return read{closed, 1, api.OK}
	case s[0] == '[', s[0] == ']':
		return read{name(s[:1]), 1, api.OK}
	case strings.HasPrefix(s, "//"):
		return read{now(regular("//")), 2 + len(regular("//")), api.OK}
	case s[0] == '/':
		return read{literal(regular("/")), 1 + len(regular("/")), api.OK}
	}
	word := regular("")
	if u, ok, e := dec.Token(word); e != api.OK {
		return refused(e)
	} else if ok {
		return read{u, len(word), api.OK}
	}
	return read{name(word), len(word), api.OK}
}

func plainNext(s string, at int) read {
	at += len(formSkipped.FindString(s[at:]))
	g := plainToken(s[at:])
	if g.e == api.OK {
		g.next += at
	}
	return g
}

func plainStructure(s string) []string {
	var list []string
	for _, line := range formLine.Split(s, -1) {
		if strings.HasPrefix(line, "%%") || strings.HasPrefix(line, "%!") {
			list = append(list, line[2:])
		}
	}
	return list
}

// checkText holds both calls against forms, at each place; and a token behind the other comes to the end.
func checkText(t *testing.T, s string) {
	for at := range len(s) + 1 {
		g, want := next(s, at), plainNext(s, at)
		if g != want {
			t.Fatalf("Next(%q, %d): %v, not %v", s, at, g, want)
		}
		if g.e == api.OK && (g.next < at || g.next > len(s) || g.next == at && at < len(s) || (g.t == end) != (g.t.Kind == api.TokEnd) || g.t == end && g.next != len(s)) {
			t.Fatalf("Next(%q, %d): %v: a place that may not be", s, at, g)
		}
	}
	if g, want := scan.Structure([]byte(s)), plainStructure(s); !slices.Equal(g, want) {
		t.Fatalf("Structure(%q): %q, not %q", s, g, want)
	}
}

// P4.1 and P4.2: all short texts of bytes that tokens are made of.
func TestShortTexts(t *testing.T) {
	const letters = "()<>[{/%!\\ \n\r\f1a"
	var extend func(s string, left int)
	extend = func(s string, left int) {
		checkText(t, s)
		if left == 0 {
			return
		}
		for i := range len(letters) {
			extend(s+letters[i:i+1], left-1)
		}
	}
	extend("", 4)
	for a := range 256 {
		for b := range 256 {
			checkText(t, string([]byte{byte(a), byte(b)}))
		}
	}
}

// P4.1 and P4.2: many texts, of pieces that tokens are made of, and of any bytes.
func TestManyTexts(t *testing.T) {
	pieces := []string{"(", ")", "<", ">", "<<", ">>", "[", "]", "{", "}", "/", "//", "%", "%%", "%!", "\\", "\\(", "\\)", "\\\\", "\\n", "\\7", "\\41", "\\777", "\\\n", "\\\r\n", "\n", "\r", "\r\n", "\f", "\x00", "\t", " ", "a", "b", "F", "g", "add", "0", "1", "7", "8", "-3.5", "1e5", "16#ff", "2147483648", "\x0b", "\x80", "\xff", "é"}
	r := rand.New(rand.NewSource(4))
	for range 30000 {
		var b strings.Builder
		if r.Intn(10) == 0 {
			any := make([]byte, r.Intn(40))
			r.Read(any)
			b.Write(any)
		}
		some := pieces
		if r.Intn(2) == 0 {
			some = []string{pieces[r.Intn(len(pieces))], pieces[r.Intn(len(pieces))], pieces[r.Intn(len(pieces))], "(", ")", "<", ">", "1", "\n"}
		}
		for range r.Intn(20) {
			b.WriteString(some[r.Intn(len(some))])
		}
		checkText(t, b.String())
	}
}

// R4: what is handed in is not changed, spare room included, and what is answered does not hang on it any more.
func TestMemory(t *testing.T) {
	for _, s := range []string{"(a\r\nb\\101)", "<4142>", "abc", "/abc", "//abc", "12", "[", "<<", "%%abc\n%!d", "(a", "<4g>"} {
		room := append([]byte(s), "spare room"...)
		b := room[:len(s)]
		u, n, e := scan.Next(b, 0)
		list := scan.Structure(b)
		if string(room) != s+"spare room" {
			t.Errorf("%q is changed: %q", s, room)
		}
		for i := range room {
			room[i] = '#'
		}
		if want := next(s, 0); (read{u, n, e}) != want {
			t.Errorf("Next(%q) hangs on its bytes: %v, not %v", s, u, want)
		}
		if want := plainStructure(s); !slices.Equal(list, want) {
			t.Errorf("Structure(%q) hangs on its bytes: %q", s, list)
		}
	}
	b := []byte("%%a\n%%b")
	first, second := scan.Structure(b), scan.Structure(b)
	first[0] = "changed"
	if second[0] != "a" || !bytes.Equal(b, []byte("%%a\n%%b")) {
		t.Errorf("two answers share memory: %q", second)
	}
}

// R5: the same bytes have the same answer, whatever was read in between, errors included.
func TestNothingIsKept(t *testing.T) {
	for range 3 {
		checkWhole(t, "(ab)", text("ab"))
		checkRefused(t, "(ab", api.SyntaxError)
		checkWhole(t, "<41>", text("A"))
		checkRefused(t, "<4", api.SyntaxError)
		checkWhole(t, "x", name("x"))
		checkRefused(t, "1e999", api.LimitCheck)
		checkWhole(t, "", end)
	}
}
