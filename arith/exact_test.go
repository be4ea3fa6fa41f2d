package arith_test

import (
	"math/big"
	"math/rand"
	"testing"

	"mezzotint/api"
	"mezzotint/arith"
	"mezzotint/mat"
)

// numbers are Ints and Reals at and around the places where answers turn, and of every size from a fixed seed.
func numbers() (list []api.Obj) {
	for _, n := range []int{low, low + 1, -one - 1, -one, -46341, -46340, -32769, -32768, -32767, -33, -32, -31, -2, -1, 0, 1, 2, 3, 31, 32, 33, 90, 181, 182, 32767, 32768, 46340, 46341, one, 1 << 30, top - 1, top} {
		list = append(list, whole(n), part(n))
	}
	for _, n := range []int{low + half, low + one, -one - half, -one + 1, -half - 1, -half, -half + 1, half - 1, half, half + 1, one - 1, one + 1, one + half, 2 * one, top - one, top - half - 1, top - half, top - half + 1} {
		list = append(list, part(n))
	}
	r := rand.New(rand.NewSource(8))
	for range 80 {
		list = append(list, whole(int(int32(r.Uint32()))>>r.Intn(31)), part(int(int32(r.Uint32()))>>r.Intn(31)))
	}
	return list
}

// answer is what an operator hands over, or its error.
type answer struct {
	o api.Obj
	e api.Errno
}

func failed(e api.Errno) answer { return answer{e: e} }

// exactly answers the value of a number.
func exactly(o api.Obj) *big.Rat {
	if o.Kind == api.Int {
		return big.NewRat(int64(o.N), 1)
	}
	return big.NewRat(int64(o.N), one)
}

func within(n *big.Int) bool {
	return n.Cmp(big.NewInt(low)) >= 0 && n.Cmp(big.NewInt(top)) <= 0
}

// floorOf answers the greatest whole number that is not above x.
func floorOf(x *big.Rat) *big.Int {
	// Div rounds downwards, as a denominator is never below 0.
	return new(big.Int).Div(x.Num(), x.Denom())
}

func add(x, y *big.Rat) *big.Rat { return new(big.Rat).Add(x, y) }
func sub(x, y *big.Rat) *big.Rat { return new(big.Rat).Sub(x, y) }
func mul(x, y *big.Rat) *big.Rat { return new(big.Rat).Mul(x, y) }
func quo(x, y *big.Rat) *big.Rat { return new(big.Rat).Quo(x, y) }

// realOf answers the Real next to x, of two as near the one farther from 0; UndefinedResult, if it does not fit.
func realOf(x *big.Rat) answer {
	n := floorOf(add(mul(new(big.Rat).Abs(x), big.NewRat(one, 1)), big.NewRat(1, 2)))
	if x.Sign() < 0 {
		n.Neg(n)
	}
	if !within(n) {
		return failed(api.UndefinedResult)
	}
	return answer{o: part(int(n.Int64()))}
}

// isRealToo tells whether a number is one, or would be one as a Real.
func isRealToo(o api.Obj) bool {
	return o.Kind == api.Real || -32768 <= o.N && o.N <= 32767
}

// sumOf answers what add, sub and mul answer whose exact outcome is x.
func sumOf(x *big.Rat, a, b api.Obj) answer {
	if a.Kind == api.Int && b.Kind == api.Int && within(x.Num()) {
		return answer{o: whole(int(x.Num().Int64()))}
	}
	if !isRealToo(a) || !isRealToo(b) {
		return failed(api.RangeCheck)
	}
	return realOf(x)
}

func checkAnswer(t *testing.T, want answer, name string, args ...api.Obj) {
	t.Helper()
	check(t, want.o, want.e, name, args...)
}

// P8.1: sums, differences, products and quotients.
func TestSumsExactly(t *testing.T) {
	list := numbers()
	for _, a := range list {
		enough(t)
		for _, b := range list {
			x, y := exactly(a), exactly(b)
			checkAnswer(t, sumOf(add(x, y), a, b), "add", a, b)
			checkAnswer(t, sumOf(sub(x, y), a, b), "sub", a, b)
			checkAnswer(t, sumOf(mul(x, y), a, b), "mul", a, b)
			switch {
			case !isRealToo(a) || !isRealToo(b):
				checkAnswer(t, failed(api.RangeCheck), "div", a, b)
			case y.Sign() == 0:
				checkAnswer(t, failed(api.UndefinedResult), "div", a, b)
			default:
				checkAnswer(t, realOf(quo(x, y)), "div", a, b)
			}
		}
	}
}

// bitsOf answers the 32 bits of an Int, the lowest first.
func bitsOf(n int) (bits [32]bool) {
	rest := (n + 1<<32) % (1 << 32)
	for i := range bits {
		bits[i], rest = rest%2 == 1, rest/2
	}
	return bits
}

// ofBits answers the Int of 32 bits.
func ofBits(bit func(i int) bool) answer {
	n := 0
	for i := range 31 {
		if bit(i) {
			n += 1 << i
		}
	}
	if bit(31) {
		n -= 1 << 31
	}
	return answer{o: whole(n)}
}

// P8.1: two Ints: quotients, what is left, bits; TypeCheck if one is a Real.
func TestIntsExactly(t *testing.T) {
	list := numbers()
	for _, a := range list {
		enough(t)
		for _, b := range list {
			if a.Kind == api.Real || b.Kind == api.Real {
				for _, name := range []string{"idiv", "mod", "and", "or", "xor", "bitshift"} {
					checkAnswer(t, failed(api.TypeCheck), name, a, b)
				}
				continue
			}
			p, q := bitsOf(a.N), bitsOf(b.N)
			checkAnswer(t, ofBits(func(i int) bool { return p[i] && q[i] }), "and", a, b)
			checkAnswer(t, ofBits(func(i int) bool { return p[i] || q[i] }), "or", a, b)
			checkAnswer(t, ofBits(func(i int) bool { return p[i] != q[i] }), "xor", a, b)
			checkAnswer(t, ofBits(func(i int) bool { return i-b.N >= 0 && i-b.N < 32 && p[i-b.N] }), "bitshift", a, b)
			if b.N == 0 {
				checkAnswer(t, failed(api.UndefinedResult), "idiv", a, b)
				checkAnswer(t, failed(api.UndefinedResult), "mod", a, b)
				continue
			}
			quotient, rest := new(big.Int).QuoRem(big.NewInt(int64(a.N)), big.NewInt(int64(b.N)), new(big.Int))
			checkAnswer(t, answer{o: whole(int(rest.Int64()))}, "mod", a, b)
			if within(quotient) {
				checkAnswer(t, answer{o: whole(int(quotient.Int64()))}, "idiv", a, b)
			} else {
				checkAnswer(t, failed(api.UndefinedResult), "idiv", a, b)
			}
		}
	}
}

// P8.1, P8.2: numbers by their values.
func TestOrderExactly(t *testing.T) {
	list := numbers()
	for _, a := range list {
		enough(t)
		for _, b := range list {
			order := exactly(a).Cmp(exactly(b))
			checkLess(t, a, b, order < 0, true)
			checkEqual(t, a, b, order == 0, true)
			check(t, truthOf(order > 0), api.OK, "gt", a, b)
			check(t, truthOf(order >= 0), api.OK, "ge", a, b)
			check(t, truthOf(order < 0), api.OK, "lt", a, b)
			check(t, truthOf(order <= 0), api.OK, "le", a, b)
		}
	}
}

// negatedOf answers what neg answers.
func negatedOf(a api.Obj) answer {
	switch {
	case a.Kind == api.Real:
		return realOf(new(big.Rat).Neg(exactly(a)))
	case a.N == low:
		return failed(api.RangeCheck)
	}
	return answer{o: whole(-a.N)}
}

// wholeOf answers what ceiling, floor, round and truncate answer of a, if it is not an Int: the Real of n.
func wholeOf(a api.Obj, n *big.Int) answer {
	if a.Kind == api.Int {
		return answer{o: a}
	}
	return realOf(new(big.Rat).SetInt(n))
}

// P8.1: the operators of one operand.
func TestOneNumberExactly(t *testing.T) {
	for _, a := range numbers() {
		enough(t)
		x := exactly(a)
		checkAnswer(t, negatedOf(a), "neg", a)
		if x.Sign() < 0 {
			checkAnswer(t, negatedOf(a), "abs", a)
		} else {
			checkAnswer(t, answer{o: a}, "abs", a)
		}
		ceiling := floorOf(new(big.Rat).Neg(x))
		ceiling.Neg(ceiling)
		checkAnswer(t, wholeOf(a, ceiling), "ceiling", a)
		checkAnswer(t, wholeOf(a, floorOf(x)), "floor", a)
		checkAnswer(t, wholeOf(a, floorOf(add(x, big.NewRat(1, 2)))), "round", a)
		checkAnswer(t, wholeOf(a, new(big.Int).Quo(x.Num(), x.Denom())), "truncate", a)
		if a.Kind == api.Int {
			bits := bitsOf(a.N)
			checkAnswer(t, ofBits(func(i int) bool { return !bits[i] }), "not", a)
		} else {
			checkAnswer(t, failed(api.TypeCheck), "not", a)
		}
	}
}

// P8.1: the root is next to the exact one: no other Real is nearer.
func TestSqrtExactly(t *testing.T) {
	for _, a := range numbers() {
		enough(t)
		x := exactly(a)
		if x.Sign() < 0 || !isRealToo(a) {
			checkAnswer(t, failed(api.RangeCheck), "sqrt", a)
			continue
		}
		list, e := arith.Do("sqrt", a)
		if e != api.OK || len(list) != 1 || list[0].Kind != api.Real || list[0].N < 0 {
			t.Errorf("sqrt of %+v: %+v %d", a, list, e)
			continue
		}
		root, halfPart := exactly(list[0]), big.NewRat(1, 2*one)
		under, over := sub(root, halfPart), add(root, halfPart)
		if under.Sign() > 0 && mul(under, under).Cmp(x) > 0 || mul(over, over).Cmp(x) <= 0 {
			t.Errorf("sqrt of %+v: %+v", a, list)
		}
	}
}

// P8.1: sin and cos are Rotate's second and first number, at all whole degrees and next to them.
func TestSinAndCosExactly(t *testing.T) {
	list := numbers()
	for degrees := -32768; degrees <= 32767; degrees += 13 {
		list = append(list, whole(degrees), part(degrees*one), part(degrees*one+half-1), part(degrees*one+half))
	}
	for _, a := range list {
		enough(t)
		if !isRealToo(a) {
			checkAnswer(t, failed(api.RangeCheck), "sin", a)
			checkAnswer(t, failed(api.RangeCheck), "cos", a)
			continue
		}
		parts := a.N
		if a.Kind == api.Int {
			parts *= one
		}
		m, e := mat.Rotate(parts)
		if e != api.OK {
			t.Errorf("Rotate of %d: %d", parts, e)
		}
		checkAnswer(t, answer{o: part(m[1])}, "sin", a)
		checkAnswer(t, answer{o: part(m[0])}, "cos", a)
	}
}
