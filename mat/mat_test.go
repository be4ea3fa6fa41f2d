package mat_test

import (
	"math"
	"math/big"
	"math/rand"
	"testing"

	"mezzotint/api"
	"mezzotint/mat"
)

const (
	one = 65536
	low = -1 << 31
	top = 1<<31 - 1
)

// misfits are numbers that do not fit, from just beyond the bounds to the ends of int.
var misfits = []int{low - 1, top + 1, 1 << 32, -1 << 32, 1 << 47, math.MinInt, math.MinInt + 1, math.MaxInt}

type matrix = [6]int

// point and square are what a call answers, errors included.
type point struct {
	p api.Point
	e api.Errno
}

type square struct {
	m matrix
	e api.Errno
}

type number struct {
	n int
	e api.Errno
}

func led(p api.Point, e api.Errno) point { return point{p, e} }
func made(m matrix, e api.Errno) square  { return square{m, e} }
func told(n int, e api.Errno) number     { return number{n, e} }

func at(x, y int) point           { return point{api.Point{X: x, Y: y}, api.OK} }
func noPoint(e api.Errno) point   { return point{api.Point{}, e} }
func fine(m matrix) square        { return square{m, api.OK} }
func noSquare(e api.Errno) square { return square{matrix{}, e} }

// exactly works by exact numbers, in the order in which it is called, and keeps the first error.
type exactly struct{ e api.Errno }

func (x *exactly) fail(e api.Errno) int {
	if x.e == api.OK {
		x.e = e
	}
	return 0
}

// over answers n / d, rounded to the nearest, of two as near to the one farther from 0.
func (x *exactly) over(n, d *big.Int) int {
	sign := n.Sign() * d.Sign()
	n, d = new(big.Int).Abs(n), new(big.Int).Abs(d)
	up := new(big.Int).Add(new(big.Int).Lsh(n, 1), d)
	q := up.Quo(up, new(big.Int).Lsh(d, 1))
	q.Mul(q, big.NewInt(int64(sign)))
	if q.Cmp(big.NewInt(low)) < 0 || q.Cmp(big.NewInt(top)) > 0 {
		return x.fail(api.UndefinedResult)
	}
	return int(q.Int64())
}

func (x *exactly) do(op byte, a, b int) int {
	if a < low || a > top || b < low || b > top {
		return x.fail(api.RangeCheck)
	}
	n, m, unit := big.NewInt(int64(a)), big.NewInt(int64(b)), big.NewInt(one)
	switch op {
	case '+':
		return x.over(n.Add(n, m), big.NewInt(1))
	case '-':
		return x.over(n.Sub(n, m), big.NewInt(1))
	case '*':
		return x.over(n.Mul(n, m), unit)
	}
	if b == 0 {
		return x.fail(api.UndefinedResult)
	}
	return x.over(n.Mul(n, unit), m)
}

func (x *exactly) root(a int) int {
	if a < 0 || a > top {
		return x.fail(api.RangeCheck)
	}
	// The root of four times the square, and one more, halved, is the rounded root.
	n := big.NewInt(int64(a) * one * 4)
	return int(n.Sqrt(n).Int64()+1) / 2
}

// wantLed is Apply, or Delta, word by word of the chapter.
func wantLed(x *exactly, m matrix, px, py int, apply bool) (int, int) {
	ax := x.do('*', m[0], px)
	cy := x.do('*', m[2], py)
	rx := x.do('+', ax, cy)
	if apply {
		rx = x.do('+', rx, m[4])
	}
	bx := x.do('*', m[1], px)
	dy := x.do('*', m[3], py)
	ry := x.do('+', bx, dy)
	if apply {
		ry = x.do('+', ry, m[5])
	}
	return rx, ry
}

func wantConcat(a, b matrix) square {
	x := &exactly{}
	var m matrix
	m[0], m[1] = wantLed(x, b, a[0], a[1], false)
	m[2], m[3] = wantLed(x, b, a[2], a[3], false)
	m[4], m[5] = wantLed(x, b, a[4], a[5], true)
	if x.e != api.OK {
		return noSquare(x.e)
	}
	return fine(m)
}

func wantWhole(x *exactly, m matrix) int {
	ad := x.do('*', m[0], m[3])
	bc := x.do('*', m[1], m[2])
	return x.do('-', ad, bc)
}

func wantInvert(m matrix) square {
	x := &exactly{}
	whole := wantWhole(x, m)
	if whole == 0 {
		x.fail(api.UndefinedResult)
	}
	var r matrix
	r[0] = x.do('/', m[3], whole)
	r[1] = x.do('-', 0, m[1])
	r[1] = x.do('/', r[1], whole)
	r[2] = x.do('-', 0, m[2])
	r[2] = x.do('/', r[2], whole)
	r[3] = x.do('/', m[0], whole)
	cty := x.do('*', m[2], m[5])
	dtx := x.do('*', m[3], m[4])
	r[4] = x.do('-', cty, dtx)
	r[4] = x.do('/', r[4], whole)
	btx := x.do('*', m[1], m[4])
	aty := x.do('*', m[0], m[5])
	r[5] = x.do('-', btx, aty)
	r[5] = x.do('/', r[5], whole)
	if x.e != api.OK {
		return noSquare(x.e)
	}
	return fine(r)
}

func wantScale(m matrix) number {
	x := &exactly{}
	whole := wantWhole(x, m)
	if whole < 0 {
		whole = x.do('-', 0, whole)
	}
	n := x.root(whole)
	if x.e != api.OK {
		return number{0, x.e}
	}
	return number{n, api.OK}
}

// any6 answers a matrix of numbers of every size, of edges, and, at times, of misfits.
func any6(r *rand.Rand) matrix {
	var m matrix
	for i := range m {
		m[i] = anyNumber(r)
	}
	return m
}

func anyNumber(r *rand.Rand) int {
	switch r.Intn(24) {
	case 0:
		return misfits[r.Intn(len(misfits))]
	case 1:
		return []int{low, low + 1, top - 1, top}[r.Intn(4)]
	case 2, 3:
		return 0
	case 4, 5:
		return []int{one, -one, one / 2, 2 * one, 1, -1}[r.Intn(6)]
	case 6, 7, 8:
		return int(int32(r.Uint32())) >> r.Intn(31)
	}
	// Mostly of middling size, so that products are more often than not within what fits.
	return r.Intn(512*one) - 256*one
}

// P3.1: Identity, Translate, Stretch; numbers that do not fit are laid down as they are.
func TestMade(t *testing.T) {
	if m := mat.Identity(); m != (matrix{one, 0, 0, one, 0, 0}) {
		t.Errorf("Identity: %v", m)
	}
	for _, n := range append([]int{0, 1, -1, one, -7 * one, low, top}, misfits...) {
		if m := mat.Translate(n, 5); m != (matrix{one, 0, 0, one, n, 5}) {
			t.Errorf("Translate(%d, 5): %v", n, m)
		}
		if m := mat.Translate(-3, n); m != (matrix{one, 0, 0, one, -3, n}) {
			t.Errorf("Translate(-3, %d): %v", n, m)
		}
		if m := mat.Stretch(n, 5); m != (matrix{n, 0, 0, 5, 0, 0}) {
			t.Errorf("Stretch(%d, 5): %v", n, m)
		}
		if m := mat.Stretch(-3, n); m != (matrix{-3, 0, 0, n, 0, 0}) {
			t.Errorf("Stretch(-3, %d): %v", n, m)
		}
	}
}

// P3.1: Apply and Delta of ordinary points, at the bounds, and of several errors the first.
func TestLedByHand(t *testing.T) {
	all := matrix{2 * one, 3 * one, 5 * one, 7 * one, 11 * one, 13 * one}
	undefined, range0 := noPoint(api.UndefinedResult), noPoint(api.RangeCheck)
	for _, c := range []struct {
		m            matrix
		x, y         int
		apply, delta point
	}{
		{mat.Stretch(2*one, 3*one), one, one, at(2*one, 3*one), at(2*one, 3*one)},
		{mat.Identity(), -7, 9, at(-7, 9), at(-7, 9)},
		{mat.Identity(), low, top, at(low, top), at(low, top)},
		{mat.Translate(5, -7), 1, 1, at(6, -6), at(1, 1)},
		{all, one, 0, at(13*one, 16*one), at(2*one, 3*one)},
		{all, 0, one, at(16*one, 20*one), at(5*one, 7*one)},
		{all, one, 10 * one, at(63*one, 86*one), at(52*one, 73*one)},
		// Each product is rounded by itself: twice a half is 2, not 1.
		{matrix{one / 2, 0, one / 2, 0, 0, 0}, 1, 1, at(2, 0), at(2, 0)},
		{matrix{-one / 2, one/2 - 1, -one / 2, one/2 - 1, 0, 0}, 1, 1, at(-2, 0), at(-2, 0)},
		// A product that just fits, and one that just does not.
		{mat.Stretch(one+1, one), 2147450879, 0, at(top-1, 0), at(top-1, 0)},
		{mat.Stretch(one+1, one), 2147450880, 0, undefined, undefined},
		{mat.Stretch(one, -one), 0, low, undefined, undefined},
		{mat.Stretch(one, -one), 0, low + 1, at(0, top), at(0, top)},
		// Sums that just fit, and that just do not, of x and of y.
		{matrix{one, 0, one, 0, 0, 0}, top - 1, 1, at(top, 0), at(top, 0)},
		{matrix{one, 0, one, 0, 0, 0}, top, 1, undefined, undefined},
		{matrix{0, one, 0, one, 0, 0}, low, -1, undefined, undefined},
		{matrix{0, one, 0, one, 0, 0}, low + 1, -1, at(0, low), at(0, low)},
		{mat.Translate(1, 0), top - 1, 0, at(top, 0), at(top-1, 0)},
		{mat.Translate(1, 0), top, 0, undefined, at(top, 0)},
		{mat.Translate(0, -1), 0, low, undefined, at(0, low)},
		// From left to right: what tx would bring back has been refused.
		{matrix{one, 0, one, 0, -one, 0}, top, 1, undefined, undefined},
		{matrix{0, one, 0, one, 0, one}, low, -1, undefined, undefined},
		{matrix{one, 0, one, 0, 1, 0}, top, -1, at(top, 0), at(top-1, 0)},
		// Of several errors the first: x's products, x's sums, y's products, y's sums.
		{matrix{one, one, one, one, 0, 0}, top + 1, 0, range0, range0},
		{matrix{one, one, one, one, 0, 0}, 0, low - 1, range0, range0},
		{matrix{2 * one, 0, top + 1, 0, 0, 0}, top, 0, undefined, undefined},
		{matrix{top + 1, 0, 2 * one, 0, 0, 0}, 0, top, range0, range0},
		{matrix{one, 0, one, 0, top + 1, 0}, top, 1, undefined, undefined},
		{matrix{one, 0, one, 0, top + 1, 0}, top, 0, range0, at(top, 0)},
		{matrix{one, top + 1, one, 0, 0, 0}, top, 1, undefined, undefined},
		{matrix{one, top + 1, one, 0, 0, 0}, top, 0, range0, range0},
		{matrix{0, 2 * one, 0, top + 1, 0, 0}, top, 0, undefined, undefined},
		{matrix{0, one, 0, one, 0, top + 1}, top, 1, undefined, undefined},
		{matrix{0, one, 0, one, low - 1, 0}, top, 1, range0, undefined},
		{matrix{0, one, 0, one, 0, low - 1}, top, 0, range0, at(0, top)},
		// Delta does not ask tx and ty.
		{mat.Translate(math.MaxInt, math.MinInt), 3, 4, range0, at(3, 4)},
	} {
		p := api.Point{X: c.x, Y: c.y}
		if g := led(mat.Apply(c.m, p)); g != c.apply {
			t.Errorf("Apply(%v, %v): %v, not %v", c.m, p, g, c.apply)
		}
		if g := led(mat.Delta(c.m, p)); g != c.delta {
			t.Errorf("Delta(%v, %v): %v, not %v", c.m, p, g, c.delta)
		}
	}
}

// P3.1: Concat, written out.
func TestConcatByHand(t *testing.T) {
	undefined, range0 := noSquare(api.UndefinedResult), noSquare(api.RangeCheck)
	all := matrix{2 * one, 3 * one, 5 * one, 7 * one, 11 * one, 13 * one}
	for _, c := range []struct {
		a, b matrix
		want square
	}{
		{mat.Identity(), all, fine(all)},
		{all, mat.Identity(), fine(all)},
		{mat.Stretch(2*one, 3*one), mat.Translate(5*one, 7*one), fine(matrix{2 * one, 0, 0, 3 * one, 5 * one, 7 * one})},
		{mat.Translate(5*one, 7*one), mat.Stretch(2*one, 3*one), fine(matrix{2 * one, 0, 0, 3 * one, 10 * one, 21 * one})},
		{all, matrix{17 * one, 19 * one, 23 * one, 29 * one, 31 * one, 37 * one},
			fine(matrix{103 * one, 125 * one, 246 * one, 298 * one, 517 * one, 623 * one})},
		// tx of b is added to a's tx alone, and tells its error last.
		{mat.Translate(top, 0), mat.Translate(1, 0), undefined},
		{mat.Translate(top-1, 0), mat.Translate(1, 0), fine(mat.Translate(top, 0))},
		{mat.Identity(), mat.Translate(top+1, 0), range0},
		{mat.Stretch(one, top), matrix{0, 0, 2 * one, 0, top + 1, 0}, undefined},
		{mat.Translate(0, low-1), mat.Stretch(one, one), range0},
		// (a, b) ahead of (c, d) ahead of (tx, ty).
		{matrix{top, 0, top + 1, 0, 0, 0}, mat.Stretch(2*one, one), undefined},
		{matrix{top + 1, 0, top, 0, 0, 0}, mat.Stretch(2*one, one), range0},
		{matrix{one, 0, top, 0, top + 1, 0}, mat.Stretch(2*one, one), undefined},
		{matrix{one, 0, top + 1, 0, top, 0}, mat.Stretch(2*one, one), range0},
	} {
		if g := made(mat.Concat(c.a, c.b)); g != c.want {
			t.Errorf("Concat(%v, %v): %v, not %v", c.a, c.b, g, c.want)
		}
	}
}

// P3.2: Invert, written out.
func TestInvertByHand(t *testing.T) {
	undefined, range0 := noSquare(api.UndefinedResult), noSquare(api.RangeCheck)
	for _, c := range []struct {
		m    matrix
		want square
	}{
		{mat.Identity(), fine(mat.Identity())},
		{mat.Stretch(2*one, -4*one), fine(mat.Stretch(one/2, -one/4))},
		{mat.Translate(5, -7), fine(mat.Translate(-5, 7))},
		{matrix{2 * one, 3 * one, 5 * one, 7 * one, 11 * one, 13 * one},
			fine(matrix{-7 * one, 3 * one, 5 * one, -2 * one, 12 * one, -7 * one})},
		{matrix{0, one, -one, 0, 0, 0}, fine(matrix{0, -one, one, 0, 0, 0})},
		{matrix{2 * one, one, 0, 3 * one, 6 * one, 12 * one},
			fine(matrix{one / 2, -10923, 0, 21845, -3 * one, -3 * one})},
		// D is 0: by itself, as the difference of two alike, and as products are rounded to 0.
		{matrix{}, undefined},
		{matrix{one, 2 * one, 3 * one, 6 * one, 0, 0}, undefined},
		{matrix{1, 0, 0, 1, 0, 0}, undefined},
		{mat.Stretch(181, 181), undefined},
		{mat.Stretch(182, 182), fine(mat.Stretch(182*one, 182*one))},
		{mat.Stretch(182, -182), fine(mat.Stretch(182*one, -182*one))},
		// D is 0, ahead of what is wrong with tx and ty.
		{mat.Translate(top+1, 0), range0},
		{mat.Translate(0, low-1), range0},
		{matrix{0, 0, 0, 0, top + 1, low - 1}, undefined},
		// The products of D, then its difference.
		{matrix{top, top + 1, one, 2 * one, 0, 0}, undefined},
		{matrix{top + 1, top, 2 * one, one, 0, 0}, range0},
		{matrix{one, top + 1, one, one, 0, 0}, range0},
		{matrix{one, one, -one, top, 0, 0}, undefined},
		{matrix{one, -one, one, low, 0, 0}, fine(matrix{one + 2, -2, 2, -2, 0, 0})},
		// -b is 0 - b, which is refused of the least number.
		{matrix{one, low, 0, one, 0, 0}, undefined},
		{matrix{one, 0, low, one, 0, 0}, undefined},
		{matrix{one, low + 1, 0, one, 0, 0}, fine(matrix{one, top, 0, one, 0, 0})},
		{matrix{one, 0, top, one, 0, 0}, fine(matrix{one, 0, low + 1, one, 0, 0})},
		// Quotients, ahead of a tx that does not fit.
		{matrix{1, 0, 0, one, 0, 0}, undefined},
		{matrix{2, 0, 0, one, 0, 0}, undefined},
		{matrix{3, 0, 0, one, 0, 0}, fine(matrix{1431655765, 0, 0, one, 0, 0})},
		{matrix{1, 0, 0, one, top + 1, 0}, undefined},
		{matrix{one, low, 0, one, top + 1, 0}, undefined},
		// c ty - d tx, b tx - a ty: products, difference, quotient.
		{matrix{one, 0, 0, 2 * one, top, 0}, undefined},
		{matrix{one, 0, 0, 2 * one, top, low - 1}, range0},
		{matrix{one, 0, 0, one, low, 0}, undefined},
		{matrix{one, 0, 0, one, top, 0}, fine(mat.Translate(-top, 0))},
		{matrix{one, 0, 0, one, low, low - 1}, range0},
		{matrix{one, 0, one, one, top, -2}, undefined},
		{matrix{one, 0, one, one, top, -1}, fine(matrix{one, 0, -one, one, low, 1})},
		{matrix{one / 2, 0, 0, one, 1 << 30, 0}, fine(matrix{2 * one, 0, 0, one, low, 0})},
		{matrix{one / 2, 0, 0, one, 1<<30 + 1, 0}, undefined},
	} {
		if g := made(mat.Invert(c.m)); g != c.want {
			t.Errorf("Invert(%v): %v, not %v", c.m, g, c.want)
		}
	}
}

// P3.2: Scale, written out.
func TestScaleByHand(t *testing.T) {
	for _, c := range []struct {
		m    matrix
		want number
	}{
		{mat.Identity(), number{one, api.OK}},
		{mat.Stretch(2*one, 8*one), number{4 * one, api.OK}},
		{mat.Stretch(2*one, -8*one), number{4 * one, api.OK}},
		{matrix{0, 3 * one, 3 * one, 0, 0, 0}, number{3 * one, api.OK}},
		{matrix{0, -3 * one, 3 * one, 0, 0, 0}, number{3 * one, api.OK}},
		{mat.Stretch(2*one, one), number{92682, api.OK}},
		{mat.Stretch(1, one), number{256, api.OK}},
		{mat.Stretch(-1, one), number{256, api.OK}},
		{mat.Stretch(2, one), number{362, api.OK}},
		{mat.Stretch(3, one), number{443, api.OK}}, // 443.40..
		{mat.Stretch(7, one), number{677, api.OK}}, // 677.31..
		{mat.Stretch(8, one), number{724, api.OK}}, // 724.07..
		{mat.Stretch(5, one), number{572, api.OK}}, // 572.43..
		{mat.Stretch(6, one), number{627, api.OK}}, // 627.06..
		// D of 0.
		{matrix{}, number{0, api.OK}},
		{matrix{one, 2 * one, 3 * one, 6 * one, 0, 0}, number{0, api.OK}},
		{mat.Stretch(181, 181), number{0, api.OK}},
		{mat.Stretch(182, 182), number{256, api.OK}},
		// D at the bounds: of the least number, 0 - D is refused.
		{mat.Stretch(top, one), number{11863283, api.OK}},
		{mat.Stretch(-top, one), number{11863283, api.OK}},
		{mat.Stretch(low, one), number{0, api.UndefinedResult}},
		{matrix{one, one, -1, top, 0, 0}, number{0, api.UndefinedResult}},
		{matrix{one, one, 1, top, 0, 0}, number{11863283, api.OK}},
		// tx and ty are not asked.
		{mat.Translate(top+1, math.MinInt), number{one, api.OK}},
		// Of several errors the first.
		{mat.Stretch(top+1, 0), number{0, api.RangeCheck}},
		{matrix{0, low - 1, 0, 0, 0, 0}, number{0, api.RangeCheck}},
		{matrix{0, 0, 0, low - 1, 0, 0}, number{0, api.RangeCheck}},
		{matrix{0, 0, math.MaxInt, 0, 0, 0}, number{0, api.RangeCheck}},
		{matrix{top, top + 1, 0, 2 * one, 0, 0}, number{0, api.UndefinedResult}},
		{matrix{top + 1, top, 2 * one, 0, 0, 0}, number{0, api.RangeCheck}},
	} {
		if g := told(mat.Scale(c.m)); g != c.want {
			t.Errorf("Scale(%v): %v, not %v", c.m, g, c.want)
		}
	}
}

// P3.1, P3.2: all calls against exact numbers, done word by word of the chapter.
func TestAgainstExactNumbers(t *testing.T) {
	r := rand.New(rand.NewSource(3))
	fineOnes := [5]int{}
	for range 60000 {
		a, b := any6(r), any6(r)
		p := api.Point{X: b[0], Y: b[1]}
		for i, apply := range []bool{false, true} {
			x := &exactly{}
			rx, ry := wantLed(x, a, p.X, p.Y, apply)
			want, g := at(rx, ry), led(mat.Delta(a, p))
			if x.e != api.OK {
				want = noPoint(x.e)
			}
			if apply {
				g = led(mat.Apply(a, p))
			}
			if g != want {
				t.Fatalf("%v leads %v, tx and ty %t: %v, not %v", a, p, apply, g, want)
			}
			count(&fineOnes[i], g.e)
		}
		if g, want := made(mat.Concat(a, b)), wantConcat(a, b); g != want {
			t.Fatalf("Concat(%v, %v): %v, not %v", a, b, g, want)
		} else {
			count(&fineOnes[2], g.e)
		}
		if g, want := made(mat.Invert(a)), wantInvert(a); g != want {
			t.Fatalf("Invert(%v): %v, not %v", a, g, want)
		} else {
			count(&fineOnes[3], g.e)
		}
		if g, want := told(mat.Scale(a)), wantScale(a); g != want {
			t.Fatalf("Scale(%v): %v, not %v", a, g, want)
		} else {
			count(&fineOnes[4], g.e)
		}
	}
	for i, n := range fineOnes {
		if n < 500 {
			t.Errorf("call %d was answered without an error %d times only", i, n)
		}
	}
}

func count(n *int, e api.Errno) {
	if e == api.OK {
		*n++
	}
}

// turned is Rotate of whole degrees, by the sines of the library, which the chapter's table agrees with.
func turned(degrees int) square {
	angle := float64(degrees) * math.Pi / 180
	c, s := int(math.Round(math.Cos(angle)*one)), int(math.Round(math.Sin(angle)*one))
	return fine(matrix{c, s, -s, c, 0, 0})
}

// P3.3: Rotate, written out: at the quarters of a turn, below 0, beyond a turn, between two degrees.
func TestRotateByHand(t *testing.T) {
	quarters := []matrix{{one, 0, 0, one}, {0, one, -one, 0}, {-one, 0, 0, -one}, {0, -one, one, 0}}
	for turn := -20; turn <= 20; turn++ {
		degrees := turn * 90
		want := fine(quarters[(turn+20)%4])
		for _, beside := range []int{-one / 2, -one/2 + 1, -1, 0, 1, one/2 - 1} {
			if g := made(mat.Rotate(degrees*one + beside)); g != want {
				t.Errorf("Rotate(%d degrees and %d): %v, not %v", degrees, beside, g, want)
			}
		}
	}
	for _, c := range []struct {
		degrees int
		want    matrix
	}{
		{30 * one, matrix{56756, 32768, -32768, 56756}},
		{-30 * one, matrix{56756, -32768, 32768, 56756}},
		{45 * one, matrix{46341, 46341, -46341, 46341}},
		{60 * one, matrix{32768, 56756, -56756, 32768}},
		{89 * one, matrix{1144, 65526, -65526, 1144}},
		{91 * one, matrix{-1144, 65526, -65526, -1144}},
		{120 * one, matrix{-32768, 56756, -56756, -32768}},
		{179 * one, matrix{-65526, 1144, -1144, -65526}},
		{181 * one, matrix{-65526, -1144, 1144, -65526}},
		{210 * one, matrix{-56756, -32768, 32768, -56756}},
		{269 * one, matrix{-1144, -65526, 65526, -1144}},
		{271 * one, matrix{1144, -65526, 65526, 1144}},
		{300 * one, matrix{32768, -56756, 56756, 32768}},
		{359 * one, matrix{65526, -1144, 1144, 65526}},
		{361 * one, matrix{65526, 1144, -1144, 65526}},
		{-361 * one, matrix{65526, -1144, 1144, 65526}},
		// Of two as near the greater, on both sides of 0.
		{one / 2, matrix{65526, 1144, -1144, 65526}},
		{one/2 - 1, matrix{one, 0, 0, one}},
		{-one / 2, matrix{one, 0, 0, one}},
		{-one/2 - 1, matrix{65526, -1144, 1144, 65526}},
		{-one - one/2, matrix{65526, -1144, 1144, 65526}},
		{359*one + one/2 - 1, matrix{65526, -1144, 1144, 65526}},
		{359*one + one/2, matrix{one, 0, 0, one}},
		// The least and the greatest: -32768 is 352 beyond whole turns, and 32768 would be 8.
		{low, matrix{64898, -9121, 9121, 64898}},
		{top, matrix{64898, 9121, -9121, 64898}},
		{top - one/2, matrix{65048, 7987, -7987, 65048}},
		{top - one/2 + 1, matrix{64898, 9121, -9121, 64898}},
	} {
		if g := made(mat.Rotate(c.degrees)); g != fine(c.want) {
			t.Errorf("Rotate(%d): %v, not %v", c.degrees, g, c.want)
		}
	}
}

// P3.3: each whole degree that fits, and numbers between, beside the sines of the library.
func TestRotateAgainstSines(t *testing.T) {
	for degrees := -32768; degrees <= 32767; degrees++ {
		if g, want := made(mat.Rotate(degrees*one)), turned(degrees); g != want {
			t.Fatalf("Rotate(%d degrees): %v, not %v", degrees, g, want)
		}
	}
	r := rand.New(rand.NewSource(4))
	for range 20000 {
		n := int(int32(r.Uint32())) >> r.Intn(16)
		nearest := int(math.Floor(float64(n)/one + 0.5))
		if g, want := made(mat.Rotate(n)), turned(nearest); g != want {
			t.Fatalf("Rotate(%d): %v, not %v", n, g, want)
		}
	}
}

// P3.3: degrees that do not fit.
func TestRotateMisfits(t *testing.T) {
	for _, n := range misfits {
		if g := made(mat.Rotate(n)); g != noSquare(api.RangeCheck) {
			t.Errorf("Rotate(%d): %v", n, g)
		}
	}
}
