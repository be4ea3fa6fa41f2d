package dec_test

import (
	"math"
	"math/big"
	"math/rand"
	"regexp"
	"strconv"
	"strings"
	"testing"

	"mezzotint/api"
	"mezzotint/dec"
)

const (
	one = 65536
	low = -1 << 31
	top = 1<<31 - 1
)

// misfits are numbers that do not fit, from just beyond the bounds to the ends of int.
var misfits = []int{low - 1, top + 1, low - one, top + one, 1 << 32, -1 << 32, 1 << 47, math.MinInt, math.MinInt + 1, math.MaxInt, math.MaxInt - 1}

// samples are numbers that fit: the bounds, every part of One, and numbers of every size from a fixed seed.
func samples() []int {
	list := []int{low, low + 1, low + one/2, low + one - 1, low + one, -one - 1, -one, -1, 0, one + 1, top - one, top - 1, top}
	for part := range one {
		list = append(list, part, -part-5*one)
	}
	r := rand.New(rand.NewSource(2))
	for range 2000 {
		list = append(list, int(int32(r.Uint32()))>>r.Intn(31))
	}
	return list
}

type parsed struct {
	n  int
	ok bool
}

func parse(s string) parsed {
	n, ok := dec.Parse(s)
	return parsed{n, ok}
}

type answer struct {
	t  api.Token
	ok bool
	e  api.Errno
}

func token(s string) answer {
	t, ok, e := dec.Token(s)
	return answer{t, ok, e}
}

func asInt(n int) answer  { return answer{api.Token{Kind: api.TokInt, N: n}, true, api.OK} }
func asReal(n int) answer { return answer{api.Token{Kind: api.TokReal, N: n}, true, api.OK} }

var (
	tooGreat = answer{api.Token{}, true, api.LimitCheck}
	noNumber = answer{}
)

func TestNumbersOfApi(t *testing.T) {
	if api.One != one || api.MinFix != low || api.MaxFix != top || api.MinInt != low || api.MaxInt != top {
		t.Error("the bounds of api")
	}
	if api.OK != 0 || api.LimitCheck != 9 || api.TokInt != 1 || api.TokReal != 2 {
		t.Error("the numbers of api")
	}
}

// P2.1: both ways to print, by hand.
func TestPrintByHand(t *testing.T) {
	for _, c := range []struct {
		n          int
		text, real string
	}{
		{0, "0", "0.0"},
		{one, "1", "1.0"},
		{-one, "-1", "-1.0"},
		{10 * one, "10", "10.0"},
		{-300 * one, "-300", "-300.0"},
		{one / 2, "0.5", "0.5"},
		{-one / 2, "-0.5", "-0.5"},
		{one + one/4, "1.25", "1.25"},
		{-12*one - one/8, "-12.125", "-12.125"},
		{one / 16, "0.0625", "0.0625"},
		{6554, "0.100006103515625", "0.100006103515625"},
		{1, "0.0000152587890625", "0.0000152587890625"},
		{-1, "-0.0000152587890625", "-0.0000152587890625"},
		{one - 1, "0.9999847412109375", "0.9999847412109375"},
		{one + 1, "1.0000152587890625", "1.0000152587890625"},
		{32767 * one, "32767", "32767.0"},
		{top, "32767.9999847412109375", "32767.9999847412109375"},
		{low, "-32768", "-32768.0"},
		{low + 1, "-32767.9999847412109375", "-32767.9999847412109375"},
	} {
		if s := dec.Print(c.n); s != c.text {
			t.Errorf("Print(%d): %s, not %s", c.n, s, c.text)
		}
		if s := dec.PrintReal(c.n); s != c.real {
			t.Errorf("PrintReal(%d): %s, not %s", c.n, s, c.real)
		}
	}
}

// P2.1: numbers that do not fit.
func TestPrintMisfit(t *testing.T) {
	for _, n := range misfits {
		if s := dec.Print(n); s != "0" {
			t.Errorf("Print(%d): %s", n, s)
		}
		if s := dec.PrintReal(n); s != "0.0" {
			t.Errorf("PrintReal(%d): %s", n, s)
		}
	}
}

// exactText is P2.1's text, by exact numbers: 16 digits are always enough, and noughts at the end say nothing.
func exactText(n int) (text, real string) {
	text = strings.TrimRight(big.NewRat(int64(n), one).FloatString(16), "0")
	if whole, ended := strings.CutSuffix(text, "."); ended {
		return whole, whole + ".0"
	}
	return text, text
}

// P2.1, P2.2 and P2.3: what is printed is exact, and says the same number when it is read.
func TestPrintedIsRead(t *testing.T) {
	for _, n := range samples() {
		text, real := dec.Print(n), dec.PrintReal(n)
		if wantText, wantReal := exactText(n); text != wantText || real != wantReal {
			t.Fatalf("%d: %s and %s, not %s and %s", n, text, real, wantText, wantReal)
		}
		if g := parse(text); g != (parsed{n, true}) {
			t.Fatalf("Parse(%q): %v, not %d", text, g, n)
		}
		if g := parse(real); g != (parsed{n, true}) {
			t.Fatalf("Parse(%q): %v, not %d", real, g, n)
		}
		if g := token(real); g != asReal(n) {
			t.Fatalf("Token(%q): %v, not TokReal %d", real, g, n)
		}
		if n%one == 0 {
			if g := token(text); g != asInt(n/one) {
				t.Fatalf("Token(%q): %v, not TokInt %d", text, g, n/one)
			}
		}
	}
}

// P2.2: texts that say a number that fits.
func TestParseByHand(t *testing.T) {
	noughts := strings.Repeat("0", 70)
	for _, c := range []struct {
		s string
		n int
	}{
		{"0", 0}, {"-0", 0}, {"+0", 0}, {"0.", 0}, {".0", 0}, {"-.0", 0},
		{"1", one}, {"+1", one}, {"-1", -one}, {"007", 7 * one}, {"7.", 7 * one}, {"-7.", -7 * one},
		{"0.5", one / 2}, {".5", one / 2}, {"+.25", one / 4}, {"-.25", -one / 4}, {"12.75", 12*one + 3*one/4},
		{"0.1", 6554}, {"-0.1", -6554}, {"3.14159", 205887},
		{"32767", 32767 * one}, {"-32768", low}, {"-32768.0", low},
		// Half of a One-th part, and the least bit to either side of it.
		{"0.00000762939453125", 1}, {"-0.00000762939453125", -1},
		{"0.00000762939453124999999999999999999999999999999999999999999999", 0},
		{"-0.0000076293945312499999999999999999999999999999999999999999999", 0},
		{"0.00000762939453125000000000000000000000000000000000000000000001", 1},
		{"0.00002288818359375", 2}, {"-0.00002288818359375", -2}, {"0.00002288818359374", 1},
		{"0.99999237060546875", one}, {"0.99999237060546874", one - 1},
		// The bounds: a number fits once it is rounded, or not.
		{"32767.9999847412109375", top}, {"32767.99999237060546874", top},
		{"-32768.00000762939453124", low}, {"-32767.99999237060546875", low}, {"-32767.99999237060546874", low + 1},
		// 64 bytes.
		{"1." + noughts[:62], one}, {noughts[:63] + "1", one}, {"-" + noughts[:62] + "1", -one}, {"." + strings.Repeat("9", 63), one},
	} {
		if g := parse(c.s); g != (parsed{c.n, true}) {
			t.Errorf("Parse(%q): %v, not %d", c.s, g, c.n)
		}
	}
}

// P2.2: texts that say none, or none that fits.
func TestParseRefuses(t *testing.T) {
	noughts := strings.Repeat("0", 70)
	for _, s := range []string{
		"", "+", "-", ".", "+.", "-.", "..", "+-1", "-+1", "--1", "++1", "1-", "1+", "1.-2", ".+1", "1.2.3", "1..2", "..1", "1..",
		"a", "1a", "a1", "1e5", "1E5", "1e0", "16#FF", "2#1", "0x10", "1_000", "1,5", " 1", "1 ", "1 2", "1\n", "\x001", "1\x00", "/1", "1:", "\xff", "é", "١", "inf", "NaN",
		"32768", "32768.0", "+32768", "-32769", "32767.99999237060546875", "-32768.00000762939453125", "99999", "65536", "-65536",
		"4294967296", "4294967297", "281474976710656", "18446744073709551616", "18446744073709551617", "-18446744073709551617",
		strings.Repeat("9", 64), "-" + strings.Repeat("9", 63),
		noughts[:65], noughts[:64] + "1", "1." + noughts[:63], "-" + noughts[:64], strings.Repeat("1", 1<<16),
	} {
		if g := parse(s); g != (parsed{}) {
			t.Errorf("Parse(%q): %v", s, g)
		}
	}
}

// P2.3: whole numbers.
func TestTokenWhole(t *testing.T) {
	noughts := strings.Repeat("0", 70)
	for s, want := range map[string]answer{
		"0": asInt(0), "-0": asInt(0), "+0": asInt(0), "1": asInt(1), "-1": asInt(-1), "+7": asInt(7), "007": asInt(7), "123456": asInt(123456),
		"32768": asInt(32768), "-32769": asInt(-32769),
		"2147483647": asInt(top), "+2147483647": asInt(top), "2147483646": asInt(top - 1), "-2147483648": asInt(low), "-2147483647": asInt(low + 1),
		"2147483648": tooGreat, "+2147483648": tooGreat, "-2147483649": tooGreat, "4294967295": tooGreat, "4294967296": tooGreat, "4294967297": tooGreat,
		"-4294967297": tooGreat, "18446744073709551616": tooGreat, "18446744073709551617": tooGreat, "-18446744073709551617": tooGreat,
		strings.Repeat("9", 64): tooGreat, "-" + strings.Repeat("9", 63): tooGreat,
		noughts[:64]: asInt(0), noughts[:63] + "7": asInt(7), "-" + noughts[:62] + "7": asInt(-7), noughts[:54] + "2147483647": asInt(top),
		noughts[:65]: noNumber, noughts[:64] + "7": noNumber, strings.Repeat("9", 65): noNumber,
	} {
		if g := token(s); g != want {
			t.Errorf("Token(%q): %v, not %v", s, g, want)
		}
	}
}

// P2.3: numbers with a base.
func TestTokenRadix(t *testing.T) {
	noughts := strings.Repeat("0", 70)
	for s, want := range map[string]answer{
		"2#0": asInt(0), "2#1": asInt(1), "2#1010": asInt(10), "8#777": asInt(511), "10#99": asInt(99), "02#11": asInt(3), "08#17": asInt(15),
		"16#fF": asInt(255), "16#Ff": asInt(255), "16#09aAfF": asInt(0x9aaff), "36#z": asInt(35), "36#Z": asInt(35), "36#10": asInt(36), "36#Zz": asInt(1295), "11#a": asInt(10), "35#Y": asInt(34),
		"16#7FFFFFFF": asInt(top), "16#80000000": asInt(low), "16#80000001": asInt(low + 1), "16#FFFFFFFE": asInt(-2), "16#FFFFFFFF": asInt(-1), "16#100000000": tooGreat, "16#100000001": tooGreat,
		"16#FFFFFFFFFFFFFFFF": tooGreat, "16#10000000000000000": tooGreat, "16#10000000000000001": tooGreat,
		"2#" + strings.Repeat("1", 31): asInt(top), "2#1" + noughts[:31]: asInt(low), "2#" + strings.Repeat("1", 32): asInt(-1), "2#1" + noughts[:32]: tooGreat,
		"2#" + strings.Repeat("1", 62): tooGreat, "36#" + strings.Repeat("z", 61): tooGreat,
		"2#" + noughts[:61] + "1": asInt(1), "16#" + noughts[:59] + "ff": asInt(255), "16#" + noughts[:60] + "ff": noNumber, "2#" + noughts[:62] + "1": noNumber,
		"#": noNumber, "#1": noNumber, "2#": noNumber, "16#": noNumber, "0#0": noNumber, "1#0": noNumber, "00#0": noNumber, "01#0": noNumber, "37#0": noNumber, "99#0": noNumber, "002#1": noNumber, "016#1": noNumber, "100#1": noNumber,
		"2#2": noNumber, "8#8": noNumber, "10#a": noNumber, "16#g": noNumber, "16#G": noNumber, "35#z": noNumber, "35#Z": noNumber, "36#@": noNumber, "36#[": noNumber, "36#`": noNumber, "36#{": noNumber, "36#/": noNumber, "36#:": noNumber, "36#\x80": noNumber,
		"+2#1": noNumber, "-2#1": noNumber, "2#-1": noNumber, "2#+1": noNumber, "2#1.0": noNumber, "2.#1": noNumber, "a#1": noNumber, "1a#1": noNumber, "2##1": noNumber, "2#1#1": noNumber, "16#1e+1": noNumber,
		// One that would be too great, if it were a number.
		"16#FFFFFFFFFFFFFFFFG": noNumber, "2#1" + noughts[:40] + "2": noNumber,
		// e is a digit here.
		"16#1e1": asInt(0x1e1), "10#1e1": noNumber,
	} {
		if g := token(s); g != want {
			t.Errorf("Token(%q): %v, not %v", s, g, want)
		}
	}
}

// P2.3: 2^31 and 2^32, and what is one less and one more, in every base and either case.
func TestTokenRadixBounds(t *testing.T) {
	for base := 2; base <= 36; base++ {
		for n, want := range map[int64]answer{
			1<<31 - 1: asInt(top), 1 << 31: asInt(low), 1<<31 + 1: asInt(low + 1),
			1<<32 - 1: asInt(-1), 1 << 32: tooGreat, 1<<32 + 1: tooGreat,
		} {
			s := strconv.Itoa(base) + "#" + strconv.FormatInt(n, base)
			for _, s := range []string{s, strings.ToUpper(s)} {
				if g := token(s); g != want {
					t.Errorf("Token(%q): %v, not %v", s, g, want)
				}
			}
		}
	}
}

// P2.3: reals.
func TestTokenReal(t *testing.T) {
	noughts := strings.Repeat("0", 70)
	for s, want := range map[string]answer{
		"0.0": asReal(0), "-0.0": asReal(0), "1.": asReal(one), "-1.": asReal(-one), ".5": asReal(one / 2), "-.5": asReal(-one / 2), "+.5": asReal(one / 2), "0.1": asReal(6554), "12.75": asReal(12*one + 3*one/4),
		"1e0": asReal(one), "1E0": asReal(one), "1e1": asReal(10 * one), "1E+1": asReal(10 * one), "1e-1": asReal(6554), "-1e-1": asReal(-6554), "1.e1": asReal(10 * one), ".5e1": asReal(5 * one), "-.5E+1": asReal(-5 * one),
		"1e01": asReal(10 * one), "1e001": asReal(10 * one), "1e-001": asReal(6554), "1e000": asReal(one), "1e-0": asReal(one), "12.5e2": asReal(1250 * one), "1250e-2": asReal(12*one + one/2), "123e-2": asReal(80609),
		"3.2767e4": asReal(32767 * one), "-3.2768e4": asReal(low), "3.2768e4": tooGreat, "-3.2769e4": tooGreat,
		// Half of a One-th part, as it is and led there.
		"0.00000762939453125": asReal(1), "-0.00000762939453125": asReal(-1), "7.62939453125e-6": asReal(1), "762939453125e-17": asReal(1), "7.62939453124e-6": asReal(0), "-7.62939453124e-6": asReal(0), "-7.62939453125e-6": asReal(-1),
		"9e-6": asReal(1), "9.99e-7": asReal(0), "9e-7": asReal(0), "-9e-7": asReal(0), "99999e-11": asReal(0), "99999e-10": asReal(1),
		// The bounds, once rounded.
		"32767.9999847412109375": asReal(top), "32767.99999237060546874": asReal(top), "32767.99999237060546875": tooGreat,
		"-32768.0": asReal(low), "-32768.00000762939453124": asReal(low), "-32768.00000762939453125": tooGreat, "32768.": tooGreat, "32768e0": tooGreat, "3276799999237060546874e-17": asReal(top), "3276799999237060546875e-17": tooGreat,
		// The point far away.
		"1e999": tooGreat, "-1e999": tooGreat, "0e999": asReal(0), "-0.0e+999": asReal(0), "1e-999": asReal(0), "-1e-999": asReal(0), "1e100": tooGreat, "1e4": asReal(10000 * one), "1e5": tooGreat, "1e10": tooGreat, "1e19": tooGreat, "1e20": tooGreat, "1e64": tooGreat,
		"0." + noughts[:40] + "1e41": asReal(one), "." + noughts[:50] + "5e51": asReal(5 * one), "1" + noughts[:40] + "e-40": asReal(one), "1" + noughts[:40] + "e-41": asReal(6554), "1" + noughts[:40] + ".e-40": asReal(one), "-1" + noughts[:40] + "e-36": asReal(-10000 * one), "1" + noughts[:40] + "e-35": tooGreat,
		strings.Repeat("9", 60) + "e-56": asReal(10000 * one), strings.Repeat("9", 59) + "e-999": asReal(0), strings.Repeat("9", 59) + "e-065": asReal(0), strings.Repeat("9", 59) + "e-064": asReal(1),
		// 64 and 65 bytes.
		"1." + noughts[:62]: asReal(one), "1." + noughts[:63]: noNumber, "." + strings.Repeat("9", 63): asReal(one), "." + strings.Repeat("9", 64): noNumber, noughts[:60] + "1e-1": asReal(6554), noughts[:61] + "1e-1": noNumber,
		strings.Repeat("9", 60) + "e999": tooGreat, strings.Repeat("9", 61) + "e999": noNumber,
	} {
		if g := token(s); g != want {
			t.Errorf("Token(%q): %v, not %v", s, g, want)
		}
	}
}

// P2.3: texts that are no number.
func TestTokenRefuses(t *testing.T) {
	for _, s := range []string{
		"", "+", "-", ".", "+.", "-.", "+-1", "-+1", "--1", "1-", "1.2.3", "1..2", "..1", "a", "1a", "a1", "1.x", "add", "--", "1 ", " 1", "1 2", "1\n", "\x00", "1\x00", "\xff", "١", "0x10", "1_0", "1,5", "inf", "Infinity", "NaN", "nan",
		"e", "E", "e1", "E1", "-e1", ".e1", "+.e1", "1e", "1E", "1e+", "1e-", "1.e", ".5e-", "1e1.", "1e.1", "1e1.5", "1e1e1", "1ee1", "1e1E1", "1eE", "1e+-1", "1e--1", "1e-+1", "1e1-", "1e 1", "1f1", "1p1", "1d1",
		"1e0000", "1e1000", "1e-1000", "1e+0001", "0e0000", "1e99999999999999999999",
		strings.Repeat("1", 65), "." + strings.Repeat("1", 64), strings.Repeat("1", 1<<16),
	} {
		if g := token(s); g != noNumber {
			t.Errorf("Token(%q): %v", s, g)
		}
	}
}

var (
	formDecimal = regexp.MustCompile(`^([+-]?)(?:([0-9]+)\.?([0-9]*)|\.([0-9]+))$`)
	formReal    = regexp.MustCompile(`^([+-]?(?:[0-9]+\.?[0-9]*|\.[0-9]+))(?:[eE]([+-]?[0-9]{1,3}))?$`)
	formWhole   = regexp.MustCompile(`^[+-]?[0-9]+$`)
	formRadix   = regexp.MustCompile(`^([0-9]{1,2})#([0-9a-zA-Z]+)$`)
)

// exactDecimal is what a text of the form says times ten to the power, rounded, by exact numbers.
func exactDecimal(s string, power int64) *big.Int {
	m := formDecimal.FindStringSubmatch(s)
	behind := m[3] + m[4]
	n, _ := new(big.Int).SetString(m[2]+behind, 10)
	n.Mul(n, big.NewInt(one))
	d := big.NewInt(1)
	power -= int64(len(behind))
	ten := new(big.Int).Exp(big.NewInt(10), big.NewInt(max(power, -power)), nil)
	if power < 0 {
		d = ten
	} else {
		n.Mul(n, ten)
	}
	n.Add(n.Lsh(n, 1), d)
	n.Quo(n, new(big.Int).Lsh(d, 1))
	if m[1] == "-" {
		n.Neg(n)
	}
	return n
}

func within(n *big.Int, least, greatest int64) bool {
	return n.Cmp(big.NewInt(least)) >= 0 && n.Cmp(big.NewInt(greatest)) <= 0
}

func exactParse(s string) parsed {
	if len(s) > 64 || !formDecimal.MatchString(s) {
		return parsed{}
	}
	if n := exactDecimal(s, 0); within(n, low, top) {
		return parsed{int(n.Int64()), true}
	}
	return parsed{}
}

func exactRadix(baseText, digits string) answer {
	base, _ := strconv.Atoi(baseText)
	if base < 2 || base > 36 {
		return noNumber
	}
	n, ok := new(big.Int).SetString(digits, base)
	if !ok {
		return noNumber
	}
	if !within(n, 0, 1<<32-1) {
		return tooGreat
	}
	return asInt(int(int32(n.Uint64())))
}

func exactToken(s string) answer {
	if len(s) > 64 {
		return noNumber
	}
	if m := formRadix.FindStringSubmatch(s); m != nil {
		return exactRadix(m[1], m[2])
	}
	if formWhole.MatchString(s) {
		if n, _ := new(big.Int).SetString(s, 10); within(n, low, top) {
			return asInt(int(n.Int64()))
		}
	}
	m := formReal.FindStringSubmatch(s)
	if m == nil {
		return noNumber
	}
	power, _ := strconv.ParseInt(m[2], 10, 64)
	if n := exactDecimal(m[1], power); within(n, low, top) {
		return asReal(int(n.Int64()))
	}
	return tooGreat
}

// checkText holds both readers against exact numbers.
func checkText(t *testing.T, s string) {
	if g, want := parse(s), exactParse(s); g != want {
		t.Fatalf("Parse(%q): %v, not %v", s, g, want)
	}
	if g, want := token(s), exactToken(s); g != want {
		t.Fatalf("Token(%q): %v, not %v", s, g, want)
	}
}

// P2.2 and P2.3: all short texts of bytes that numbers are made of, and of some that they are not made of.
func TestShortTexts(t *testing.T) {
	const letters = "0179+-.eE#aZ /"
	var extend func(s string, left int)
	extend = func(s string, left int) {
		checkText(t, s)
		if left == 0 {
			return
		}
		for i := range len(letters) {
			extend(s+letters[i:i+1], left-1)
		}
	}
	extend("", 4)
	for a := range 256 {
		checkText(t, string([]byte{byte(a)}))
		for b := range 256 {
			checkText(t, string([]byte{byte(a), byte(b)}))
			checkText(t, "1"+string([]byte{byte(a), byte(b)})+"1")
		}
	}
}

// someDigits are up to most digits of a base, some of them noughts in a row.
func someDigits(r *rand.Rand, base, most int) string {
	b := make([]byte, r.Intn(most+1))
	for i := range b {
		b[i] = "0123456789abcdefghijklmnopqrstuvwxyz"[r.Intn(base)]
		if r.Intn(3) == 0 && i > 0 {
			b[i] = b[i-1]
		}
	}
	return string(b)
}

// someText is a text that says a number, or nearly so.
func someText(r *rand.Rand) string {
	choose := func(list ...string) string { return list[r.Intn(len(list))] }
	most := []int{2, 6, 20, 40, 66}[r.Intn(5)]
	switch r.Intn(6) {
	case 0:
		base := 1 + r.Intn(36)
		return strconv.Itoa(base) + "#" + someDigits(r, max(base, 2), most)
	case 1:
		b := make([]byte, r.Intn(70))
		r.Read(b)
		return string(b)
	case 2: // As near to a bound, or to the middle of two, as so many digits can tell.
		n := new(big.Rat).SetFrac64(int64(int32(r.Uint32())>>r.Intn(31))*2+int64(r.Intn(2)), 2*one)
		return n.FloatString(r.Intn(30))
	}
	return choose("", "+", "-") + someDigits(r, 10, most) + choose("", ".", ".") + someDigits(r, 10, most) + choose("", "", "e", "E") + choose("", "", "+", "-") + someDigits(r, 10, 3)
}

// P2.2 and P2.3: many texts against exact numbers.
func TestManyTexts(t *testing.T) {
	r := rand.New(rand.NewSource(3))
	for range 200000 {
		checkText(t, someText(r))
	}
}

// R5: the same text has the same answer, whatever was read in between.
func TestNothingIsKept(t *testing.T) {
	for range 2 {
		for s, want := range map[string]answer{"0.1": asReal(6554), "16#FFFFFFFF": asInt(-1), "2147483648": tooGreat, "1.x": noNumber} {
			if g := token(s); g != want {
				t.Errorf("Token(%q): %v, not %v", s, g, want)
			}
		}
		if g := parse("0.1"); g != (parsed{6554, true}) {
			t.Errorf("Parse: %v", g)
		}
	}
}
