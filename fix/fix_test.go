package fix_test

import (
	"math"
	"math/big"
	"math/rand"
	"slices"
	"testing"

	"mezzotint/api"
	"mezzotint/fix"
)

const (
	one = 65536
	low = -1 << 31
	top = 1<<31 - 1
)

// misfits are numbers that do not fit, from just beyond the bounds to the ends of int.
var misfits = []int{low - 1, top + 1, low - one, top + one, 1 << 32, -1 << 32, 1 << 47, math.MinInt, math.MinInt + 1, math.MaxInt, math.MaxInt - 1}

// edges are numbers that fit, at and around every place where an answer turns.
var edges = []int{
	low, low + 1, low + one/2 - 1, low + one/2, low + one/2 + 1, low + one - 1, low + one, low + one + 1,
	-(1 << 30), -46341, -46340, -3 * one, -2*one - 1, -2 * one, -one - one/2 - 1, -one - one/2, -one - one/2 + 1, -one - 1, -one, -one + 1,
	-one/2 - 1, -one / 2, -one/2 + 1, -3, -2, -1, 0, 1, 2, 3, one/2 - 1, one / 2, one/2 + 1,
	one - 1, one, one + 1, one + one/2 - 1, one + one/2, one + one/2 + 1, 2 * one, 2*one + 1, 3 * one, 46340, 46341, 1 << 30,
	top - one - 1, top - one, top - one + 1, top - one/2 - 1, top - one/2, top - one/2 + 1, top - 1, top,
}

// samples are the edges, and numbers of every size from a fixed seed.
func samples() []int {
	r := rand.New(rand.NewSource(1))
	list := slices.Clone(edges)
	for range 200 {
		list = append(list, int(int32(r.Uint32()))>>r.Intn(31))
	}
	return list
}

type pair struct {
	n int
	e api.Errno
}

func got(n int, e api.Errno) pair { return pair{n, e} }

// awayFromZero rounds n / d by exact numbers: to the nearest, of two as near to the one farther from 0.
func awayFromZero(n, d *big.Int) *big.Int {
	sign := n.Sign() * d.Sign()
	n, d = new(big.Int).Abs(n), new(big.Int).Abs(d)
	up := new(big.Int).Add(new(big.Int).Lsh(n, 1), d)
	q := up.Quo(up, new(big.Int).Lsh(d, 1))
	return q.Mul(q, big.NewInt(int64(sign)))
}

// fitted is what a call answers whose exact outcome is n.
func fitted(n *big.Int) pair {
	if n.Cmp(big.NewInt(low)) < 0 || n.Cmp(big.NewInt(top)) > 0 {
		return pair{0, api.UndefinedResult}
	}
	return pair{int(n.Int64()), api.OK}
}

func exact(n int) *big.Int { return big.NewInt(int64(n)) }

func TestLimits(t *testing.T) {
	if api.One != one || api.MinFix != low || api.MaxFix != top {
		t.Errorf("One %d, MinFix %d, MaxFix %d", api.One, api.MinFix, api.MaxFix)
	}
	if api.OK != 0 || api.RangeCheck != 11 || api.UndefinedResult != 18 {
		t.Errorf("OK %d, RangeCheck %d, UndefinedResult %d", api.OK, api.RangeCheck, api.UndefinedResult)
	}
}

// P1.1: Fits.
func TestFits(t *testing.T) {
	for _, n := range samples() {
		if !fix.Fits(n) {
			t.Errorf("Fits(%d) is false", n)
		}
	}
	for _, n := range misfits {
		if fix.Fits(n) {
			t.Errorf("Fits(%d) is true", n)
		}
	}
}

// P1.1: ordinary numbers and the bounds, written out.
func TestTwoNumbersByHand(t *testing.T) {
	for _, c := range []struct {
		name string
		f    func(a, b int) (int, api.Errno)
		a, b int
		want pair
	}{
		{"Add", fix.Add, 2, 3, pair{5, api.OK}},
		{"Add", fix.Add, -one, one / 2, pair{-one / 2, api.OK}},
		{"Add", fix.Add, top - 1, 1, pair{top, api.OK}},
		{"Add", fix.Add, top, 1, pair{0, api.UndefinedResult}},
		{"Add", fix.Add, low + 1, -1, pair{low, api.OK}},
		{"Add", fix.Add, low, -1, pair{0, api.UndefinedResult}},
		{"Add", fix.Add, low, top, pair{-1, api.OK}},
		{"Add", fix.Add, low, low, pair{0, api.UndefinedResult}},
		{"Sub", fix.Sub, 3, 5, pair{-2, api.OK}},
		{"Sub", fix.Sub, -1, low, pair{top, api.OK}},
		{"Sub", fix.Sub, 0, low, pair{0, api.UndefinedResult}},
		{"Sub", fix.Sub, 0, top, pair{-top, api.OK}},
		{"Sub", fix.Sub, -1, top, pair{low, api.OK}},
		{"Sub", fix.Sub, -2, top, pair{0, api.UndefinedResult}},
		{"Mul", fix.Mul, 2 * one, 3 * one, pair{6 * one, api.OK}},
		{"Mul", fix.Mul, one / 2, 3, pair{2, api.OK}},
		{"Mul", fix.Mul, -one / 2, 3, pair{-2, api.OK}},
		{"Mul", fix.Mul, -one / 2, -3, pair{2, api.OK}},
		{"Mul", fix.Mul, one / 2, 1, pair{1, api.OK}},
		{"Mul", fix.Mul, one/2 - 1, 1, pair{0, api.OK}},
		{"Mul", fix.Mul, -one/2 + 1, 1, pair{0, api.OK}},
		{"Mul", fix.Mul, top, one, pair{top, api.OK}},
		{"Mul", fix.Mul, low, one, pair{low, api.OK}},
		{"Mul", fix.Mul, low, -one, pair{0, api.UndefinedResult}},
		{"Mul", fix.Mul, top, -one, pair{-top, api.OK}},
		{"Mul", fix.Mul, low, low, pair{0, api.UndefinedResult}},
		{"Mul", fix.Mul, top, top, pair{0, api.UndefinedResult}},
		{"Div", fix.Div, 6 * one, 3 * one, pair{2 * one, api.OK}},
		{"Div", fix.Div, one, 3 * one, pair{21845, api.OK}},
		{"Div", fix.Div, 2 * one, 3 * one, pair{43691, api.OK}},
		{"Div", fix.Div, -2 * one, 3 * one, pair{-43691, api.OK}},
		{"Div", fix.Div, 1, 2 * one, pair{1, api.OK}},
		{"Div", fix.Div, -1, 2 * one, pair{-1, api.OK}},
		{"Div", fix.Div, 1, -2 * one, pair{-1, api.OK}},
		{"Div", fix.Div, -1, -2 * one, pair{1, api.OK}},
		{"Div", fix.Div, 1, 2*one + 1, pair{0, api.OK}},
		{"Div", fix.Div, top, one, pair{top, api.OK}},
		{"Div", fix.Div, top, one - 1, pair{0, api.UndefinedResult}},
		{"Div", fix.Div, low, one, pair{low, api.OK}},
		{"Div", fix.Div, low, -one, pair{0, api.UndefinedResult}},
		{"Div", fix.Div, low, 1, pair{0, api.UndefinedResult}},
		{"Div", fix.Div, 1, 0, pair{0, api.UndefinedResult}},
		{"Div", fix.Div, 0, 0, pair{0, api.UndefinedResult}},
		{"Div", fix.Div, 0, low, pair{0, api.OK}},
	} {
		if g := got(c.f(c.a, c.b)); g != c.want {
			t.Errorf("%s(%d, %d): %v, not %v", c.name, c.a, c.b, g, c.want)
		}
	}
}

// P1.1: a result is refused if it does not fit once rounded, and only then. Beside each row stands the
// exact result, in One-th parts.
func TestRoundedAtTheBounds(t *testing.T) {
	refused := pair{0, api.UndefinedResult}
	for _, c := range []struct {
		name string
		f    func(a, b int) (int, api.Errno)
		a, b int
		want pair
	}{
		{"Mul", fix.Mul, 2147418113, 65538, pair{top, api.OK}},  // top and 2/65536
		{"Mul", fix.Mul, 1590020543, 88513, pair{top, api.OK}},  // top and 32767/65536
		{"Mul", fix.Mul, 2147450880, 65537, refused},            // top and a half
		{"Mul", fix.Mul, -2147450880, 65537, pair{low, api.OK}}, // low, less a half towards 0
		{"Mul", fix.Mul, -2147418114, 65538, pair{low, api.OK}}, // low and 4/65536 beyond
		{"Mul", fix.Mul, 1846972905, -76199, pair{low, api.OK}}, // low and 32767/65536 beyond
		{"Mul", fix.Mul, -1715306752, 82048, refused},           // low and a half beyond
		{"Div", fix.Div, 2147450879, 65535, pair{top, api.OK}},  // top, less 1/65535
		{"Div", fix.Div, 2147450880, 65535, refused},            // top and 1
		{"Div", fix.Div, -2147450880, 65535, pair{low, api.OK}}, // low
		{"Div", fix.Div, 2147450881, -65535, refused},           // low and 1 and 1/65535 beyond
	} {
		if g := got(c.f(c.a, c.b)); g != c.want {
			t.Errorf("%s(%d, %d): %v, not %v", c.name, c.a, c.b, g, c.want)
		}
	}
}

// P1.1: Add, Sub, Mul and Div against exact numbers.
func TestTwoNumbersExactly(t *testing.T) {
	list := samples()
	for _, a := range list {
		for _, b := range list {
			x, y := exact(a), exact(b)
			if g, w := got(fix.Add(a, b)), fitted(new(big.Int).Add(x, y)); g != w {
				t.Errorf("Add(%d, %d): %v, not %v", a, b, g, w)
			}
			if g, w := got(fix.Sub(a, b)), fitted(new(big.Int).Sub(x, y)); g != w {
				t.Errorf("Sub(%d, %d): %v, not %v", a, b, g, w)
			}
			if g, w := got(fix.Mul(a, b)), fitted(awayFromZero(new(big.Int).Mul(x, y), exact(one))); g != w {
				t.Errorf("Mul(%d, %d): %v, not %v", a, b, g, w)
			}
			w := pair{0, api.UndefinedResult}
			if b != 0 {
				w = fitted(awayFromZero(new(big.Int).Mul(x, exact(one)), y))
			}
			if g := got(fix.Div(a, b)); g != w {
				t.Errorf("Div(%d, %d): %v, not %v", a, b, g, w)
			}
		}
	}
}

// P1.1: a number that does not fit, on either side, comes ahead of every other error.
func TestTwoNumbersMisfit(t *testing.T) {
	refused := pair{0, api.RangeCheck}
	for name, f := range map[string]func(a, b int) (int, api.Errno){"Add": fix.Add, "Sub": fix.Sub, "Mul": fix.Mul, "Div": fix.Div} {
		for _, a := range misfits {
			for _, b := range slices.Concat(edges, misfits) {
				if g := got(f(a, b)); g != refused {
					t.Errorf("%s(%d, %d): %v", name, a, b, g)
				}
				if g := got(f(b, a)); g != refused {
					t.Errorf("%s(%d, %d): %v", name, b, a, g)
				}
			}
		}
	}
}

// P1.1: Sum.
func TestSum(t *testing.T) {
	for _, c := range []struct {
		list []int
		want pair
	}{
		{nil, pair{0, api.OK}},
		{[]int{}, pair{0, api.OK}},
		{[]int{-7}, pair{-7, api.OK}},
		{[]int{1, 2, 3}, pair{6, api.OK}},
		{[]int{top, low, 1}, pair{0, api.OK}},
		{[]int{low, top, top, 1, -1}, pair{top - 1, api.OK}},
		{[]int{top, -1, 1}, pair{top, api.OK}},
		{[]int{top, 1, -1}, pair{0, api.UndefinedResult}},
		{[]int{low, -1, 1}, pair{0, api.UndefinedResult}},
		{[]int{top + 1}, pair{0, api.RangeCheck}},
		{[]int{1, low - 1, 1}, pair{0, api.RangeCheck}},
		{[]int{-1, top + 1}, pair{0, api.RangeCheck}},
		{[]int{math.MaxInt, math.MinInt}, pair{0, api.RangeCheck}},
		{[]int{top, 1, math.MaxInt}, pair{0, api.UndefinedResult}},
		{[]int{math.MaxInt, top, 1}, pair{0, api.RangeCheck}},
	} {
		before := slices.Clone(c.list)
		if g := got(fix.Sum(c.list...)); g != c.want {
			t.Errorf("Sum(%v): %v, not %v", c.list, g, c.want)
		}
		if !slices.Equal(before, c.list) {
			t.Errorf("Sum(%v) changed its list to %v", before, c.list)
		}
	}
	if g := got(fix.Sum()); g != (pair{0, api.OK}) {
		t.Errorf("Sum(): %v", g)
	}
}

// P1.2: FromInt.
func TestFromInt(t *testing.T) {
	for _, c := range []struct {
		n    int
		want pair
	}{
		{0, pair{0, api.OK}}, {1, pair{one, api.OK}}, {-1, pair{-one, api.OK}}, {300, pair{300 * one, api.OK}},
		{32767, pair{32767 * one, api.OK}}, {32768, pair{0, api.RangeCheck}},
		{-32768, pair{low, api.OK}}, {-32769, pair{0, api.RangeCheck}},
		{top, pair{0, api.RangeCheck}}, {low, pair{0, api.RangeCheck}},
		{1 << 48, pair{0, api.RangeCheck}}, {1<<48 + 1, pair{0, api.RangeCheck}}, {-1 << 48, pair{0, api.RangeCheck}},
	} {
		if g := got(fix.FromInt(c.n)); g != c.want {
			t.Errorf("FromInt(%d): %v, not %v", c.n, g, c.want)
		}
	}
	for _, n := range misfits {
		if g := got(fix.FromInt(n)); g != (pair{0, api.RangeCheck}) {
			t.Errorf("FromInt(%d): %v", n, g)
		}
	}
}

// P1.2: whole numbers, written out.
func TestWholeByHand(t *testing.T) {
	const beyond = math.MaxInt // stands for UndefinedResult
	for _, c := range []struct{ a, floor, ceiling, round, truncate int }{
		{0, 0, 0, 0, 0},
		{1, 0, one, 0, 0},
		{-1, -one, 0, 0, 0},
		{one/2 - 1, 0, one, 0, 0},
		{one / 2, 0, one, one, 0},
		{-one / 2, -one, 0, 0, 0},
		{-one/2 - 1, -one, 0, -one, 0},
		{one, one, one, one, one},
		{-one, -one, -one, -one, -one},
		{one + 1, one, 2 * one, one, one},
		{-one - 1, -2 * one, -one, -one, -one},
		{one + one/2, one, 2 * one, 2 * one, one},
		{-one - one/2, -2 * one, -one, -one, -one},
		{-one - one/2 - 1, -2 * one, -one, -2 * one, -one},
		{32767 * one, 32767 * one, 32767 * one, 32767 * one, 32767 * one},
		{32767*one + 1, 32767 * one, beyond, 32767 * one, 32767 * one},
		{32767*one + one/2 - 1, 32767 * one, beyond, 32767 * one, 32767 * one},
		{32767*one + one/2, 32767 * one, beyond, beyond, 32767 * one},
		{top, 32767 * one, beyond, beyond, 32767 * one},
		{low, low, low, low, low},
		{low + 1, low, low + one, low, low + one},
		{low + one/2 - 1, low, low + one, low, low + one},
		{low + one/2, low, low + one, low + one, low + one},
	} {
		want := func(n int) pair {
			if n == beyond {
				return pair{0, api.UndefinedResult}
			}
			return pair{n, api.OK}
		}
		if n := fix.Floor(c.a); n != c.floor {
			t.Errorf("Floor(%d): %d, not %d", c.a, n, c.floor)
		}
		if g := got(fix.Ceiling(c.a)); g != want(c.ceiling) {
			t.Errorf("Ceiling(%d): %v, not %v", c.a, g, want(c.ceiling))
		}
		if g := got(fix.Round(c.a)); g != want(c.round) {
			t.Errorf("Round(%d): %v, not %v", c.a, g, want(c.round))
		}
		if n := fix.Truncate(c.a); n != c.truncate {
			t.Errorf("Truncate(%d): %d, not %d", c.a, n, c.truncate)
		}
	}
}

// P1.2: whole numbers against exact ones.
func TestWholeExactly(t *testing.T) {
	part := exact(one)
	whole := func(n *big.Int) *big.Int { return n.Mul(n, part) }
	for _, a := range samples() {
		// big's Div is Euclid's: with a divisor above 0 it goes down.
		down := whole(new(big.Int).Div(exact(a), part))
		up := whole(new(big.Int).Neg(new(big.Int).Div(exact(-a), part)))
		mid := whole(new(big.Int).Div(exact(a+one/2), part))
		cut := whole(new(big.Int).Quo(exact(a), part))
		if n := fix.Floor(a); int64(n) != down.Int64() {
			t.Errorf("Floor(%d): %d, not %d", a, n, down)
		}
		if g := got(fix.Ceiling(a)); g != fitted(up) {
			t.Errorf("Ceiling(%d): %v, not %v", a, g, fitted(up))
		}
		if g := got(fix.Round(a)); g != fitted(mid) {
			t.Errorf("Round(%d): %v, not %v", a, g, fitted(mid))
		}
		if n := fix.Truncate(a); int64(n) != cut.Int64() {
			t.Errorf("Truncate(%d): %d, not %d", a, n, cut)
		}
	}
}

// P1.1 of P1.2's calls: numbers that do not fit.
func TestOneNumberMisfit(t *testing.T) {
	refused := pair{0, api.RangeCheck}
	for _, a := range misfits {
		if n := fix.Floor(a); n != 0 {
			t.Errorf("Floor(%d): %d", a, n)
		}
		if n := fix.Truncate(a); n != 0 {
			t.Errorf("Truncate(%d): %d", a, n)
		}
		if g := got(fix.Ceiling(a)); g != refused {
			t.Errorf("Ceiling(%d): %v", a, g)
		}
		if g := got(fix.Round(a)); g != refused {
			t.Errorf("Round(%d): %v", a, g)
		}
		if g := got(fix.Sqrt(a)); g != refused {
			t.Errorf("Sqrt(%d): %v", a, g)
		}
	}
}

// P1.2: Sqrt, written out.
func TestSqrtByHand(t *testing.T) {
	for _, c := range []struct {
		a    int
		want pair
	}{
		{0, pair{0, api.OK}},
		{1, pair{256, api.OK}},
		{2, pair{362, api.OK}},
		{3, pair{443, api.OK}},
		{one / 4, pair{one / 2, api.OK}},
		{one, pair{one, api.OK}},
		{2 * one, pair{92682, api.OK}},
		{4 * one, pair{2 * one, api.OK}},
		{9 * one, pair{3 * one, api.OK}},
		{10000 * one, pair{100 * one, api.OK}},
		{top, pair{11863283, api.OK}},
		{-1, pair{0, api.RangeCheck}},
		{-one, pair{0, api.RangeCheck}},
		{low, pair{0, api.RangeCheck}},
	} {
		if g := got(fix.Sqrt(c.a)); g != c.want {
			t.Errorf("Sqrt(%d): %v, not %v", c.a, g, c.want)
		}
	}
}

// P1.2: no other number is as near to the root: the doubled root lies within one of twice the answer.
func TestSqrtExactly(t *testing.T) {
	list := samples()
	for a := range 5000 {
		list = append(list, a, top-a)
	}
	for _, a := range list {
		if a < 0 {
			continue
		}
		n, e := fix.Sqrt(a)
		square := 4 * a * one
		if e != api.OK || n < 0 || n > 0 && (2*n-1)*(2*n-1) > square || (2*n+1)*(2*n+1) <= square {
			t.Errorf("Sqrt(%d): %d, %d", a, n, e)
		}
	}
}
