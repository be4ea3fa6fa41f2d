package arith_test

import (
	"slices"
	"testing"

	"mezzotint/api"
	"mezzotint/arith"
)

const (
	one  = 65536
	low  = -1 << 31
	top  = 1<<31 - 1
	half = one / 2
)

var (
	yes = api.Obj{Kind: api.Bool, N: 1}
	no  = api.Obj{Kind: api.Bool}
)

func whole(n int) api.Obj { return api.Obj{Kind: api.Int, N: n} }

// part answers the Real of so many One-th parts.
func part(n int) api.Obj { return api.Obj{Kind: api.Real, N: n} }

// The operators, by how many operands they have.
var (
	ones = []string{"neg", "abs", "ceiling", "floor", "round", "truncate", "sqrt", "sin", "cos", "not"}
	twos = []string{"add", "sub", "mul", "div", "idiv", "mod", "and", "or", "xor", "bitshift", "gt", "ge", "lt", "le"}
)

// check asks whether an operator hands over just that one object, or has that error and hands over nothing.
func check(t *testing.T, want api.Obj, wantErrno api.Errno, name string, args ...api.Obj) {
	t.Helper()
	list, e := arith.Do(name, args...)
	if e != wantErrno {
		t.Errorf("%q of %+v: error %d, not %d", name, args, e, wantErrno)
	}
	if wantErrno != api.OK && len(list) != 0 {
		t.Errorf("%q of %+v: %+v beside an error", name, args, list)
	}
	if wantErrno == api.OK && !slices.Equal(list, []api.Obj{want}) {
		t.Errorf("%q of %+v: %+v, not %+v", name, args, list, want)
	}
}

// enough ends a test of very many questions that has failed: more of the same would tell no more.
func enough(t *testing.T) {
	t.Helper()
	if t.Failed() {
		t.FailNow()
	}
}

func checkLess(t *testing.T, a, b api.Obj, want, wantOK bool) {
	t.Helper()
	if less, ok := arith.Less(a, b); less != want || ok != wantOK {
		t.Errorf("Less of %+v, %+v: %t %t, not %t %t", a, b, less, ok, want, wantOK)
	}
}

func checkEqual(t *testing.T, a, b api.Obj, want, wantOK bool) {
	t.Helper()
	if equal, ok := arith.Equal(a, b); equal != want || ok != wantOK {
		t.Errorf("Equal of %+v, %+v: %t %t, not %t %t", a, b, equal, ok, want, wantOK)
	}
}

func TestNumbersOfTheDocument(t *testing.T) {
	if api.One != one || api.MinInt != low || api.MaxInt != top || api.MinFix != low || api.MaxFix != top {
		t.Errorf("One %d, MinInt %d, MaxInt %d, MinFix %d, MaxFix %d", api.One, api.MinInt, api.MaxInt, api.MinFix, api.MaxFix)
	}
	if api.RangeCheck != 11 || api.TypeCheck != 16 || api.UndefinedResult != 18 || api.ErrArg != 21 {
		t.Errorf("RangeCheck %d, TypeCheck %d, UndefinedResult %d, ErrArg %d", api.RangeCheck, api.TypeCheck, api.UndefinedResult, api.ErrArg)
	}
}

// P8.1: how many operands each operator has.
func TestKnown(t *testing.T) {
	for i, names := range [][]string{ones, twos} {
		for _, name := range names {
			if n, ok := arith.Known(name); n != i+1 || !ok {
				t.Errorf("Known of %s: %d %t", name, n, ok)
			}
		}
	}
	for _, name := range noOperators {
		if n, ok := arith.Known(name); n != 0 || ok {
			t.Errorf("Known of %q: %d %t", name, n, ok)
		}
	}
}

// P8.1: the document's examples.
func TestExamples(t *testing.T) {
	check(t, api.Obj{}, api.RangeCheck, "add", whole(top), whole(1))
	check(t, part(one+half), api.OK, "add", whole(1), part(half))
	check(t, whole(-2), api.OK, "mod", whole(-5), whole(3))
}

// of is an operator's operands, and what comes of them: an object, or an error.
type of struct {
	a, b api.Obj
	want api.Obj
	e    api.Errno
}

func checkTwo(t *testing.T, name string, list ...of) {
	t.Helper()
	for _, c := range list {
		check(t, c.want, c.e, name, c.a, c.b)
	}
}

func refused(a, b api.Obj, e api.Errno) of { return of{a: a, b: b, e: e} }

// P8.1: Ints, Reals, both, and Ints whose sum is just not one.
func TestAdd(t *testing.T) {
	checkTwo(t, "add",
		of{a: whole(2), b: whole(3), want: whole(5)},
		of{a: whole(-2), b: whole(2), want: whole(0)},
		of{a: part(one), b: part(2 * one), want: part(3 * one)},
		of{a: part(half), b: whole(-1), want: part(-half)},
		of{a: whole(0), b: part(0), want: part(0)},
		of{a: part(0), b: whole(0), want: part(0)},
		of{a: whole(40000), b: whole(-50000), want: whole(-10000)},
		of{a: whole(top - 1), b: whole(1), want: whole(top)},
		of{a: whole(1 << 30), b: whole(1<<30 - 1), want: whole(top)},
		refused(whole(1<<30), whole(1<<30), api.RangeCheck),
		refused(whole(1), whole(top), api.RangeCheck),
		refused(whole(top), whole(top), api.RangeCheck),
		of{a: whole(low + 1), b: whole(-1), want: whole(low)},
		of{a: whole(-1 << 30), b: whole(-1 << 30), want: whole(low)},
		refused(whole(low), whole(-1), api.RangeCheck),
		refused(whole(low), whole(low), api.RangeCheck),
		of{a: whole(low), b: whole(top), want: whole(-1)},
		of{a: part(top - 1), b: part(1), want: part(top)},
		refused(part(top), part(1), api.UndefinedResult),
		of{a: part(low + 1), b: part(-1), want: part(low)},
		refused(part(low), part(-1), api.UndefinedResult),
		of{a: whole(32767), b: part(one - 1), want: part(top)},
		refused(whole(32767), part(one), api.UndefinedResult),
		of{a: whole(-32768), b: part(0), want: part(low)},
		refused(part(-1), whole(-32768), api.UndefinedResult),
		refused(whole(32768), part(-one), api.RangeCheck),
		refused(part(one), whole(-32769), api.RangeCheck),
		refused(part(top), whole(32768), api.RangeCheck),
	)
}

// P8.1: likewise.
func TestSub(t *testing.T) {
	checkTwo(t, "sub",
		of{a: whole(2), b: whole(3), want: whole(-1)},
		of{a: part(one), b: part(3 * one), want: part(-2 * one)},
		of{a: part(half), b: whole(1), want: part(-half)},
		of{a: whole(1), b: part(half), want: part(half)},
		of{a: whole(5), b: part(5 * one), want: part(0)},
		of{a: whole(top), b: whole(0), want: whole(top)},
		of{a: whole(-1), b: whole(low), want: whole(top)},
		of{a: whole(-1), b: whole(top), want: whole(low)},
		refused(whole(0), whole(low), api.RangeCheck),
		refused(whole(-2), whole(top), api.RangeCheck),
		refused(whole(top), whole(-1), api.RangeCheck),
		refused(whole(low), whole(1), api.RangeCheck),
		refused(whole(low), whole(top), api.RangeCheck),
		of{a: part(-1), b: part(low), want: part(top)},
		refused(part(0), part(low), api.UndefinedResult),
		refused(whole(0), part(low), api.UndefinedResult),
		of{a: part(-1), b: part(top), want: part(low)},
		refused(part(-2), part(top), api.UndefinedResult),
		refused(part(0), whole(-32768), api.UndefinedResult),
		refused(whole(32768), part(one), api.RangeCheck),
		refused(part(one), whole(32768), api.RangeCheck),
	)
}

// P8.1: likewise; products of Reals are rounded.
func TestMul(t *testing.T) {
	checkTwo(t, "mul",
		of{a: whole(2), b: whole(-3), want: whole(-6)},
		of{a: whole(300), b: whole(300), want: whole(90000)},
		of{a: whole(46341), b: whole(46340), want: whole(46341 * 46340)},
		refused(whole(46341), whole(46341), api.RangeCheck),
		of{a: whole(1 << 16), b: whole(-1 << 15), want: whole(low)},
		refused(whole(1<<16), whole(1<<15), api.RangeCheck),
		of{a: whole(top), b: whole(1), want: whole(top)},
		of{a: whole(top), b: whole(-1), want: whole(-top)},
		of{a: whole(low), b: whole(1), want: whole(low)},
		refused(whole(low), whole(-1), api.RangeCheck),
		refused(whole(-1), whole(low), api.RangeCheck),
		refused(whole(low), whole(low), api.RangeCheck),
		refused(whole(top), whole(top), api.RangeCheck),
		refused(whole(low), whole(top), api.RangeCheck),
		of{a: whole(low), b: whole(0), want: whole(0)},
		of{a: part(half), b: part(3), want: part(2)},
		of{a: part(-half), b: part(3), want: part(-2)},
		of{a: part(half), b: whole(3), want: part(one + half)},
		of{a: whole(3), b: part(-half), want: part(-one - half)},
		of{a: whole(0), b: part(top), want: part(0)},
		of{a: part(181 * one), b: part(181 * one), want: part(32761 * one)},
		refused(part(182*one), part(182*one), api.UndefinedResult),
		refused(part(low), whole(-1), api.UndefinedResult),
		refused(whole(32768), part(0), api.RangeCheck),
		refused(part(0), whole(-32769), api.RangeCheck),
	)
}

// P8.1: two Ints are Reals to div.
func TestDiv(t *testing.T) {
	checkTwo(t, "div",
		of{a: whole(1), b: whole(2), want: part(half)},
		of{a: whole(6), b: whole(3), want: part(2 * one)},
		of{a: whole(2), b: whole(3), want: part(43691)},
		of{a: whole(-2), b: whole(3), want: part(-43691)},
		of{a: part(one), b: whole(3), want: part(21845)},
		of{a: whole(1), b: part(3 * one), want: part(21845)},
		of{a: part(1), b: part(2 * one), want: part(1)},
		of{a: part(-1), b: part(2 * one), want: part(-1)},
		of{a: whole(0), b: whole(-7), want: part(0)},
		of{a: whole(32767), b: whole(-1), want: part(-32767 * one)},
		of{a: whole(-32768), b: whole(1), want: part(low)},
		refused(whole(-32768), whole(-1), api.UndefinedResult),
		refused(whole(1), part(1), api.UndefinedResult),
		refused(whole(1), whole(0), api.UndefinedResult),
		refused(part(0), part(0), api.UndefinedResult),
		refused(whole(32768), whole(1), api.RangeCheck),
		refused(whole(1), whole(32768), api.RangeCheck),
		refused(whole(-32769), whole(0), api.RangeCheck),
		refused(whole(32768), part(0), api.RangeCheck),
		refused(part(0), whole(top), api.RangeCheck),
	)
}

// P8.1: towards 0, with what is left having the sign of the first.
func TestIdivAndMod(t *testing.T) {
	for _, c := range []struct{ a, b, quotient, rest int }{
		{7, 2, 3, 1}, {-7, 2, -3, -1}, {7, -2, -3, 1}, {-7, -2, 3, -1},
		{5, 3, 1, 2}, {-5, 3, -1, -2}, {6, 3, 2, 0}, {-6, 3, -2, 0}, {2, 7, 0, 2}, {-2, 7, 0, -2}, {0, -4, 0, 0},
		{top, 1, top, 0}, {top, -1, -top, 0}, {low + 1, -1, top, 0}, {low, 1, low, 0}, {low, 2, -1 << 30, 0},
		{low, low, 1, 0}, {low, top, -1, -1}, {top, low, 0, top}, {low + 1, low, 0, low + 1}, {low, 3, -715827882, -2},
	} {
		check(t, whole(c.quotient), api.OK, "idiv", whole(c.a), whole(c.b))
		check(t, whole(c.rest), api.OK, "mod", whole(c.a), whole(c.b))
	}
	for _, a := range []int{low, -1, 0, 1, 7, top} {
		check(t, api.Obj{}, api.UndefinedResult, "idiv", whole(a), whole(0))
		check(t, api.Obj{}, api.UndefinedResult, "mod", whole(a), whole(0))
	}
	check(t, api.Obj{}, api.UndefinedResult, "idiv", whole(low), whole(-1))
	check(t, whole(0), api.OK, "mod", whole(low), whole(-1))
}

// P8.1: Ints and Reals stay what they are, but the least ones.
func TestNegAndAbs(t *testing.T) {
	for _, n := range []int{0, 1, 7, one, 32768, 1 << 30, top - 1, top} {
		for _, number := range []func(n int) api.Obj{whole, part} {
			check(t, number(-n), api.OK, "neg", number(n))
			check(t, number(n), api.OK, "neg", number(-n))
			check(t, number(n), api.OK, "abs", number(n))
			check(t, number(n), api.OK, "abs", number(-n))
		}
	}
	for _, name := range []string{"neg", "abs"} {
		check(t, api.Obj{}, api.RangeCheck, name, whole(low))
		check(t, api.Obj{}, api.UndefinedResult, name, part(low))
		check(t, whole(top), api.OK, name, whole(low+1))
		check(t, part(top), api.OK, name, part(low+1))
	}
}

// P8.1: the whole numbers next to Reals; Ints stay as they are, also those that would not fit as Reals.
func TestMadeWhole(t *testing.T) {
	const beyond = top + 1 // stands for UndefinedResult
	names := []string{"ceiling", "floor", "round", "truncate"}
	for _, c := range []struct {
		a    int
		want [4]int
	}{
		{0, [4]int{0, 0, 0, 0}},
		{1, [4]int{one, 0, 0, 0}},
		{-1, [4]int{0, -one, 0, 0}},
		{half - 1, [4]int{one, 0, 0, 0}},
		{half, [4]int{one, 0, one, 0}},
		{-half, [4]int{0, -one, 0, 0}},
		{-half - 1, [4]int{0, -one, -one, 0}},
		{one + half, [4]int{2 * one, one, 2 * one, one}},
		{-one - half, [4]int{-one, -2 * one, -one, -one}},
		{7 * one, [4]int{7 * one, 7 * one, 7 * one, 7 * one}},
		{32767 * one, [4]int{32767 * one, 32767 * one, 32767 * one, 32767 * one}},
		{32767*one + 1, [4]int{beyond, 32767 * one, 32767 * one, 32767 * one}},
		{32767*one + half, [4]int{beyond, 32767 * one, beyond, 32767 * one}},
		{top, [4]int{beyond, 32767 * one, beyond, 32767 * one}},
		{low, [4]int{low, low, low, low}},
		{low + 1, [4]int{low + one, low, low, low + one}},
	} {
		for i, name := range names {
			if c.want[i] == beyond {
				check(t, api.Obj{}, api.UndefinedResult, name, part(c.a))
			} else {
				check(t, part(c.want[i]), api.OK, name, part(c.a))
			}
		}
	}
	for _, n := range []int{low, -32769, -32768, -one, -1, 0, 1, 3, half, one, 32767, 32768, top} {
		for _, name := range names {
			check(t, whole(n), api.OK, name, whole(n))
		}
	}
}

// P8.1: the root is a Real, also of an Int.
func TestSqrt(t *testing.T) {
	for _, c := range []struct {
		a    api.Obj
		root int
	}{
		{whole(0), 0}, {whole(1), one}, {whole(4), 2 * one}, {whole(2), 92682}, {whole(3), 113512}, {whole(32767), 11863102},
		{part(0), 0}, {part(1), 256}, {part(2), 362}, {part(one / 4), half}, {part(4 * one), 2 * one}, {part(top), 11863283},
	} {
		check(t, part(c.root), api.OK, "sqrt", c.a)
	}
	for _, a := range []api.Obj{whole(-1), whole(-32768), whole(-32769), whole(low), whole(32768), whole(top), part(-1), part(-one), part(low)} {
		check(t, api.Obj{}, api.RangeCheck, "sqrt", a)
	}
}

// P8.1: of whole degrees and of others, which are rounded to whole ones, of two as near to the greater.
func TestSinAndCos(t *testing.T) {
	for _, c := range []struct {
		a         api.Obj
		sine, cos int
	}{
		{whole(0), 0, one}, {whole(1), 1144, 65526}, {whole(30), half, 56756}, {whole(45), 46341, 46341}, {whole(60), 56756, half},
		{whole(90), one, 0}, {whole(120), 56756, -half}, {whole(180), 0, -one}, {whole(210), -half, -56756}, {whole(270), -one, 0},
		{whole(300), -56756, half}, {whole(360), 0, one}, {whole(390), half, 56756}, {whole(-30), -half, 56756}, {whole(-90), -one, 0},
		{whole(-390), -half, 56756}, {whole(32767), 7987, 65048}, {whole(-32768), -9121, 64898},
		{part(30 * one), half, 56756}, {part(45*one + half), 47143, 45525}, {part(45*one + half - 1), 46341, 46341},
		{part(half), 1144, 65526}, {part(half - 1), 0, one}, {part(-half), 0, one}, {part(-half - 1), -1144, 65526},
		{part(360*one - half), 0, one}, {part(top), 9121, 64898}, {part(low), -9121, 64898},
	} {
		check(t, part(c.sine), api.OK, "sin", c.a)
		check(t, part(c.cos), api.OK, "cos", c.a)
	}
	for _, n := range []int{32768, -32769, 36000, top, low} {
		check(t, api.Obj{}, api.RangeCheck, "sin", whole(n))
		check(t, api.Obj{}, api.RangeCheck, "cos", whole(n))
	}
}

// P8.1: truths.
func TestTruths(t *testing.T) {
	for _, c := range []struct{ a, b, and, or, xor api.Obj }{
		{no, no, no, no, no}, {no, yes, no, yes, yes}, {yes, no, no, yes, yes}, {yes, yes, yes, yes, no},
	} {
		check(t, c.and, api.OK, "and", c.a, c.b)
		check(t, c.or, api.OK, "or", c.a, c.b)
		check(t, c.xor, api.OK, "xor", c.a, c.b)
	}
	check(t, yes, api.OK, "not", no)
	check(t, no, api.OK, "not", yes)
}

// P8.1: Ints, bit by bit.
func TestBits(t *testing.T) {
	for _, c := range []struct{ a, b, and, or, xor int }{
		{0, 0, 0, 0, 0}, {12, 10, 8, 14, 6}, {1, 1, 1, 1, 0}, {52, 7, 4, 55, 51},
		{-1, 0, 0, -1, -1}, {-1, -1, -1, -1, 0}, {-1, 77, 77, -1, -78}, {-2, 3, 2, -1, -3},
		{low, top, 0, -1, -1}, {low, -1, low, -1, top}, {low, low, low, low, 0}, {top, top, top, top, 0}, {low, 1, 0, low + 1, low + 1},
	} {
		check(t, whole(c.and), api.OK, "and", whole(c.a), whole(c.b))
		check(t, whole(c.or), api.OK, "or", whole(c.a), whole(c.b))
		check(t, whole(c.xor), api.OK, "xor", whole(c.a), whole(c.b))
	}
	for _, c := range [][2]int{{0, -1}, {1, -2}, {52, -53}, {-1, 0}, {-2, 1}, {low, top}, {top, low}} {
		check(t, whole(c[1]), api.OK, "not", whole(c[0]))
	}
}

// P8.1: 32 bits, shifted; noughts come in at both ends.
func TestBitshift(t *testing.T) {
	for _, c := range []struct{ n, by, want int }{
		{7, 3, 56}, {142, -3, 17}, {0, 5, 0}, {0, -5, 0},
		{1, 0, 1}, {-1, 0, -1}, {low, 0, low}, {top, 0, top},
		{1, 30, 1 << 30}, {1, 31, low}, {3, 31, low}, {2, 31, 0}, {1, 32, 0}, {1, 33, 0}, {1, 63, 0}, {1, 64, 0}, {1, 65, 0},
		{-1, 1, -2}, {-1, 31, low}, {-1, 32, 0}, {low, 1, 0}, {top, 1, -2}, {low + 1, 1, 2}, {-5, 3, -40},
		{-1, -1, top}, {-1, -28, 15}, {-1, -31, 1}, {-1, -32, 0}, {-1, -33, 0}, {-1, -64, 0},
		{low, -1, 1 << 30}, {low, -31, 1}, {low, -32, 0}, {top, -30, 1}, {top, -31, 0}, {1, -1, 0}, {-40, -3, 536870907},
		{1, top, 0}, {-1, top, 0}, {low, top, 0}, {top, top, 0}, {-1, low, 0}, {1, low, 0}, {top, low, 0}, {low, low, 0}, {-1, low + 1, 0},
	} {
		check(t, whole(c.want), api.OK, "bitshift", whole(c.n), whole(c.by))
	}
}

// inOrder are numbers of one value in a row each, the rows from the least to the greatest.
var inOrder = [][]api.Obj{
	{whole(low)}, {whole(low + 1)}, {whole(-32769)},
	{whole(-32768), part(low)}, {part(low + 1)},
	{whole(-2), part(-2 * one)}, {part(-one - 1)}, {whole(-1), part(-one)}, {part(-one + 1)}, {part(-half)}, {part(-1)},
	{whole(0), part(0)}, {part(1)}, {part(half - 1)}, {part(half)}, {part(half + 1)}, {part(one - 1)},
	{whole(1), part(one)}, {part(one + 1)}, {whole(2), part(2 * one)}, {whole(3), part(3 * one)},
	{part(32767*one - 1)}, {whole(32767), part(32767 * one)}, {part(32767*one + 1)}, {part(top)},
	{whole(32768)}, {whole(one)}, {whole(1 << 30)}, {whole(top - 1)}, {whole(top)},
}

// truthOf answers the truth of b.
func truthOf(b bool) api.Obj {
	if b {
		return yes
	}
	return no
}

// P8.1, P8.2: numbers by their values, each against each, an Int and a Real too, also where the Int is beyond all Reals.
func TestOrder(t *testing.T) {
	for i, left := range inOrder {
		enough(t)
		for j, right := range inOrder {
			for _, a := range left {
				for _, b := range right {
					checkLess(t, a, b, i < j, true)
					checkEqual(t, a, b, i == j, true)
					check(t, truthOf(i > j), api.OK, "gt", a, b)
					check(t, truthOf(i >= j), api.OK, "ge", a, b)
					check(t, truthOf(i < j), api.OK, "lt", a, b)
					check(t, truthOf(i <= j), api.OK, "le", a, b)
				}
			}
		}
	}
}
