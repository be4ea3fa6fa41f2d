package conv_test

import (
	"math"
	"strings"
	"testing"

	"mezzotint/api"
	"mezzotint/conv"
	"mezzotint/dec"
)

var noOperators = []string{
	"", " ", "Type", "TYPE", "type ", " cvi", "cv i", "cvii", "cvi\x00", "\x00", "\xff", "/cvi", "cv", "cvb", "cvnn", "cvrss", "check", "xchecks", "access", "unlimited", "read", "write",
	"add", "neg", "not", "pop", "dup", "length", "get", "put", "eq", "string", "array", "dict", "exec", "load", "true", "false", "[", "]", "<<", ">>",
}

// P10.1: how many operands each operator has.
func TestKnown(t *testing.T) {
	for want, names := range operators {
		for _, name := range names {
			if n, ok := conv.Known(name); n != want || !ok {
				t.Errorf("Known of %s: %d %t", name, n, ok)
			}
		}
	}
	for _, name := range noOperators {
		if n, ok := conv.Known(name); n != 0 || ok {
			t.Errorf("Known of %q: %d %t", name, n, ok)
		}
	}
}

// P10.1: the document's examples.
func TestExamples(t *testing.T) {
	b := newBench(t)
	room := b.text("xxxxxxxx")
	b.gives(b.part(room, 0, 5), "cvrs", whole(16), whole(2), room)
	b.checkText(room, "10000xxx")
	b.gives(room, "cvrs", whole(-1), whole(16), room)
	b.checkText(room, "FFFFFFFF")
}

// typed are objects of each Kind, by what type says of them.
func (b *bench) typed() map[string]api.Obj {
	b.Helper()
	return map[string]api.Obj{
		"nulltype": null, "integertype": whole(3), "realtype": part(one / 2), "booleantype": yes, "marktype": mark, "nametype": name("x"),
		"stringtype": b.text("ab"), "arraytype": b.list(null, mark), "dicttype": b.dict(2), "operatortype": op, "savetype": kept,
	}
}

// P10.1: type, of each Kind, whatever else the object has.
func TestType(t *testing.T) {
	b := newBench(t)
	for text, o := range b.typed() {
		want := run(name(text))
		b.tells(want, "type", o)
		b.tells(want, "type", run(o))
		o.Access, o.N = api.NoAccess, math.MinInt
		b.tells(want, "type", o)
		if b.s.Access(o) == api.Unlimited {
			b.tells(want, "type", b.with(o, api.NoAccess))
		}
	}
	for _, kind := range []int{-1, -11, 11, 12, math.MaxInt, math.MinInt} {
		b.refuses(api.TypeCheck, "type", api.Obj{Kind: kind})
	}
}

// P10.1: cvx, cvlit and xcheck, of each Kind and of Kinds that are none: all but Exec stays as it is.
func TestExec(t *testing.T) {
	b := newBench(t)
	objects := []api.Obj{{Kind: -1, N: 5}, {Kind: 11, Name: "y"}, whole(math.MaxInt), part(math.MinInt), {Kind: api.Bool, N: 2}, b.part(b.text("abcd"), 1, 2), b.part(b.list(null, null), 1, 1)}
	for _, o := range b.typed() {
		objects = append(objects, o)
	}
	for _, o := range objects {
		for access := -1; access <= 4; access++ {
			o.Access = access
			b.tells(run(o), "cvx", o)
			b.tells(run(o), "cvx", run(o))
			b.tells(o, "cvlit", o)
			b.tells(o, "cvlit", run(o))
			b.tells(no, "xcheck", o)
			b.tells(yes, "xcheck", run(o))
		}
	}
}

// P10.1: cvi and cvr of Ints, up to the least and the greatest, and to those that are no Reals any more.
func TestOfInts(t *testing.T) {
	b := newBench(t)
	for _, n := range []int{0, 1, -1, 5, -5, 32766, 32767, -32767, -32768} {
		b.tells(whole(n), "cvi", whole(n))
		b.tells(part(n*one), "cvr", whole(n))
	}
	for _, n := range []int{32768, -32769, 65535, 65536, -65536, api.MaxInt, api.MinInt, api.MaxInt - 1, api.MinInt + 1} {
		b.tells(whole(n), "cvi", whole(n))
		b.refuses(api.RangeCheck, "cvr", whole(n))
	}
	for _, n := range []int{api.MaxInt + 1, api.MinInt - 1, 1 << 32, math.MaxInt, math.MinInt} {
		b.refuses(api.TypeCheck, "cvi", whole(n))
		b.refuses(api.TypeCheck, "cvr", whole(n))
	}
}

// P10.1: cvi and cvr of Reals: just below and above whole ones and half ones, and the least and the greatest.
func TestOfReals(t *testing.T) {
	b := newBench(t)
	for _, near := range []int{0, 1, 2, 3, 100, 32767} {
		for _, parts := range []int{near * one, near*one + one/2} {
			for _, n := range []int{parts - 1, parts, parts + 1} {
				below := 0
				for (below+1)*one <= n {
					below++
				}
				b.tells(whole(below), "cvi", part(n))
				b.tells(part(n), "cvr", part(n))
				if n >= 0 {
					b.tells(whole(-below), "cvi", part(-n))
					b.tells(part(-n), "cvr", part(-n))
				}
			}
		}
	}
	for n, want := range map[int]int{api.MaxFix: 32767, api.MaxFix - one + 1: 32767, api.MaxFix - one: 32766, api.MinFix: -32768, api.MinFix + 1: -32767, -one - 1: -1, -one: -1, 1 - one: 0, -1: 0} {
		b.tells(whole(want), "cvi", part(n))
		b.tells(part(n), "cvr", part(n))
	}
	for _, n := range []int{api.MaxFix + 1, api.MinFix - 1, one * one, math.MaxInt, math.MinInt} {
		b.refuses(api.TypeCheck, "cvi", part(n))
		b.refuses(api.TypeCheck, "cvr", part(n))
	}
}

// P10.1: a number that is answered has its Kind and its N, and nothing else.
func TestPlainNumbers(t *testing.T) {
	b := newBench(t)
	odd := api.Obj{Exec: true, Access: api.NoAccess, Name: "x", Ref: 1, From: 2, Len: 3}
	for _, n := range []int{0, one, -one} {
		odd.Kind, odd.N = api.Int, n/one
		b.tells(whole(n/one), "cvi", odd)
		b.tells(part(n), "cvr", odd)
		odd.Kind, odd.N = api.Real, n
		b.tells(whole(n/one), "cvi", odd)
		b.tells(part(n), "cvr", odd)
	}
	for _, access := range []int{api.Unlimited, api.ReadOnly} {
		text := run(b.with(b.text("16#A"), access))
		b.tells(whole(10), "cvi", text)
		b.tells(part(10*one), "cvr", text)
	}
}

// P10.1: cvi and cvr of strings that are numbers, as a whole.
func TestOfTexts(t *testing.T) {
	b := newBench(t)
	for _, c := range []struct {
		text    string
		n, part int
	}{
		{"0", 0, 0}, {"-0", 0, 0}, {"7", 7, 7 * one}, {"+7", 7, 7 * one}, {"-7", -7, -7 * one}, {"007", 7, 7 * one}, {"32767", 32767, 32767 * one}, {"-32768", -32768, api.MinFix},
		{"2#101", 5, 5 * one}, {"16#ff", 255, 255 * one}, {"16#FF", 255, 255 * one}, {"36#Z", 35, 35 * one}, {"16#FFFFFFFF", -1, -one}, {"8#37777777777", -1, -one},
		{"1.0", 1, one}, {"1.", 1, one}, {".5", 0, one / 2}, {"-.5", 0, -one / 2}, {"-3.9", -3, -255590}, {"3.9", 3, 255590}, {"+0.99999", 0, 65535}, {"0.999999", 1, one},
		{"1e3", 1000, 1000 * one}, {"1E3", 1000, 1000 * one}, {"1e-1", 0, 6554}, {"-25e-1", -2, -5 * one / 2}, {"1.5e+1", 15, 15 * one}, {"32767.99999", 32767, api.MaxFix}, {"-32768.0", -32768, api.MinFix},
		{strings.Repeat("0", 63) + "9", 9, 9 * one},
	} {
		b.tells(whole(c.n), "cvi", b.text(c.text))
		b.tells(part(c.part), "cvr", b.text(c.text))
		inner := b.part(b.text("1"+c.text+"1"), 1, len(c.text))
		b.tells(whole(c.n), "cvi", inner)
		b.tells(part(c.part), "cvr", inner)
	}
	for text, n := range map[string]int{"32768": 32768, "-32769": -32769, "2147483647": api.MaxInt, "-2147483648": api.MinInt, "16#80000000": api.MinInt, "16#7fffffff": api.MaxInt} {
		b.tells(whole(n), "cvi", b.text(text))
		b.refuses(api.RangeCheck, "cvr", b.text(text))
	}
}

// P10.1: of strings that are no numbers, or too great ones.
func TestOfWrongTexts(t *testing.T) {
	b := newBench(t)
	for _, text := range []string{
		"", " ", " 5", "5 ", "\n5", "5\n", "5\x00", "\t5", "5%", "5 6", "(5)", "x", "5x", "x5", "1.x", "+", "-", ".", "e", "1e", "e1", "1e+", "--5", "+-5", "1.2.3", "1e1e1", "1e1.5", "1e1000",
		"1#0", "37#0", "#5", "16#", "16#G", "2#2", "-16#F", "16#-F", "16#F.0", "0x10", "1_000", "1,5", "5-", "NaN", "Inf", "true", "\xff", "\uff15", strings.Repeat("0", 64) + "9", strings.Repeat("1", 65), strings.Repeat("1", 65535),
	} {
		b.refuses(api.TypeCheck, "cvi", b.text(text))
		b.refuses(api.TypeCheck, "cvr", b.text(text))
		b.made = nil
	}
	for _, text := range []string{"2147483648", "-2147483649", "16#100000000", "36#ZZZZZZZZ", "32768.0", "-32768.5", "32768e0", "1e5", "1e999", "-1E10", strings.Repeat("1", 64)} {
		b.refuses(api.LimitCheck, "cvi", b.text(text))
		b.refuses(api.LimitCheck, "cvr", b.text(text))
	}
}

// P10.1: all short texts: whether they are numbers, and which, is as chapter 2's Token says.
func TestOfShortTexts(t *testing.T) {
	b := newBench(t)
	o := b.text("12345")
	texts := []string{""}
	for i := 0; len(texts[i]) < 5; i++ {
		for _, c := range "13-.e# " {
			texts = append(texts, texts[i]+string(c))
		}
	}
	for _, text := range texts {
		b.enough()
		b.fine(b.s.Write(o, 0, []byte(text)))
		p := b.part(o, 0, len(text))
		token, ok, e := dec.Token(text)
		for _, op := range []string{"cvi", "cvr"} {
			list, got := conv.Do(b.s, op, p)
			want := e
			switch {
			case !ok:
				want = api.TypeCheck
			case e == api.OK && op == "cvr" && token.Kind == api.TokInt && (token.N > 32767 || token.N < -32768):
				want = api.RangeCheck
			}
			if got != want {
				t.Errorf("%s of %q: error %d, not %d", op, text, got, want)
			}
			if got != api.OK {
				continue
			}
			n := token.N
			switch {
			case op == "cvi" && token.Kind == api.TokReal:
				n /= one
			case op == "cvr" && token.Kind == api.TokInt:
				n *= one
			}
			if kind := map[string]int{"cvi": api.Int, "cvr": api.Real}[op]; len(list) != 1 || list[0] != (api.Obj{Kind: kind, N: n}) {
				t.Errorf("%s of %q: %+v", op, text, list)
			}
		}
	}
}

// P10.1: cvn, of no bytes, of any bytes, of parts, and of as many bytes as may just be, and may just not be.
func TestNames(t *testing.T) {
	b := newBench(t)
	for _, text := range []string{"", "a", "ab", " a b ", "5", "(", "\x00", "\xff\x80\xc3", "caf\u00e9", strings.Repeat("n", 126), strings.Repeat("n", api.MaxName)} {
		o := b.text(text)
		b.tells(name(text), "cvn", o)
		b.tells(run(name(text)), "cvn", run(o))
		b.tells(name(text), "cvn", b.with(o, api.ReadOnly))
		b.tells(run(name(text)), "cvn", run(b.part(b.text("<"+text+">"), 1, len(text))))
	}
	for _, n := range []int{api.MaxName + 1, 200, api.MaxString} {
		long := b.text(strings.Repeat("n", n))
		b.refuses(api.LimitCheck, "cvn", long)
		b.tells(name(strings.Repeat("n", api.MaxName)), "cvn", b.part(long, n-api.MaxName, api.MaxName))
	}
}
