package arith

import (
	"mezzotint/api"
	"mezzotint/fix"
	"mezzotint/mat"
)

func isInt(o api.Obj) bool {
	return o.Kind == api.Int && api.MinInt <= o.N && o.N <= api.MaxInt
}

func isNumber(o api.Obj) bool {
	return isInt(o) || o.Kind == api.Real && fix.Fits(o.N)
}

func isTruth(o api.Obj) bool {
	return o.Kind == api.Bool && (o.N == 0 || o.N == 1)
}

// both tells whether two objects are as asked.
func both(a, b api.Obj, asked func(o api.Obj) bool) bool {
	return asked(a) && asked(b)
}

func whole(n int) api.Obj {
	return api.Obj{Kind: api.Int, N: n}
}

// truth answers the truth of what was asked; TypeCheck, if it could not be asked.
func truth(holds, ok bool) (api.Obj, api.Errno) {
	switch {
	case !ok:
		return api.Obj{}, api.TypeCheck
	case holds:
		return api.Obj{Kind: api.Bool, N: 1}, api.OK
	}
	return api.Obj{Kind: api.Bool}, api.OK
}

// made answers an object of that kind, which has nothing but its N, unless there was an error.
func made(kind, n int, e api.Errno) (api.Obj, api.Errno) {
	if e != api.OK {
		return api.Obj{}, e
	}
	return api.Obj{Kind: kind, N: n}, api.OK
}

// asReal answers a number as a Real.
func asReal(o api.Obj) (int, api.Errno) {
	switch {
	case !isNumber(o):
		return 0, api.TypeCheck
	case o.Kind == api.Int:
		return fix.FromInt(o.N)
	}
	return o.N, api.OK
}

// ofReal answers the Real that f makes of a as a Real.
func ofReal(a api.Obj, f func(x int) (int, api.Errno)) (api.Obj, api.Errno) {
	x, e := asReal(a)
	if e != api.OK {
		return api.Obj{}, e
	}
	n, e := f(x)
	return made(api.Real, n, e)
}

// ofReals answers the Real that f makes of both as Reals.
func ofReals(a, b api.Obj, f func(x, y int) (int, api.Errno)) (api.Obj, api.Errno) {
	// Asked of both ahead of all: what is no number is told ahead of an Int that is too great for a Real.
	if !both(a, b, isNumber) {
		return api.Obj{}, api.TypeCheck
	}
	x, e := asReal(a)
	if e != api.OK {
		return api.Obj{}, e
	}
	y, e := asReal(b)
	if e != api.OK {
		return api.Obj{}, e
	}
	n, e := f(x, y)
	return made(api.Real, n, e)
}

// ofInts answers the Int that f makes of two Ints.
func ofInts(a, b api.Obj, f func(x, y int) (int, api.Errno)) (api.Obj, api.Errno) {
	if !both(a, b, isInt) {
		return api.Obj{}, api.TypeCheck
	}
	n, e := f(a.N, b.N)
	return made(api.Int, n, e)
}

// ofNumbers answers what exact makes of two Ints, if that is an Int; else the Real that f makes of both as Reals.
func ofNumbers(a, b api.Obj, exact func(x, y int) int, f func(x, y int) (int, api.Errno)) (api.Obj, api.Errno) {
	if both(a, b, isInt) {
		// No sum, difference or product of two Ints is beyond 2^62, so an int holds it.
		if answer := whole(exact(a.N, b.N)); isInt(answer) {
			return answer, api.OK
		}
	}
	return ofReals(a, b, f)
}

// bitByBit answers what f makes of two truths, or of two Ints, whose bits are those of their Ns.
func bitByBit(a, b api.Obj, f func(x, y int) int) (api.Obj, api.Errno) {
	if !both(a, b, isTruth) && !both(a, b, isInt) {
		return api.Obj{}, api.TypeCheck
	}
	return made(a.Kind, f(a.N, b.N), api.OK)
}

// compared asks it of two numbers by their values; ok is false, if one is no number.
func compared(a, b api.Obj, asked func(x, y int) bool) (holds, ok bool) {
	if !both(a, b, isNumber) {
		return false, false
	}
	return asked(value(a), value(b)), true
}

// value answers a number in One-th parts, an Int too that would not fit as a Real.
func value(o api.Obj) int {
	if o.Kind == api.Int {
		return o.N * api.One
	}
	return o.N
}

// negated answers 0 less a: the Int of an Int and the Real of a Real, with the errors of what is too far off.
func negated(a api.Obj) (api.Obj, api.Errno) {
	return doTwo("sub", whole(0), a)
}

// size answers how far a is from 0.
func size(a api.Obj) (api.Obj, api.Errno) {
	if isNumber(a) && a.N >= 0 {
		return made(a.Kind, a.N, api.OK)
	}
	return negated(a)
}

// turned answers a with each bit turned: a truth has one of them, an Int 32.
func turned(a api.Obj) (api.Obj, api.Errno) {
	ones := whole(-1)
	if a.Kind == api.Bool {
		ones = api.Obj{Kind: api.Bool, N: 1}
	}
	return doTwo("xor", a, ones)
}

// madeWhole answers an Int as it is, and of a Real the whole one that f makes of it.
func madeWhole(a api.Obj, f func(x int) (int, api.Errno)) (api.Obj, api.Errno) {
	if isInt(a) {
		return whole(a.N), api.OK
	}
	return ofReal(a, f)
}

// neverRefused lets f, which has no error for a number that fits, be handed in like those that have one.
func neverRefused(f func(x int) int) func(x int) (int, api.Errno) {
	return func(x int) (int, api.Errno) { return f(x), api.OK }
}

func sine(degrees int) (int, api.Errno) {
	m, e := mat.Rotate(degrees)
	return m[1], e
}

func cosine(degrees int) (int, api.Errno) {
	m, e := mat.Rotate(degrees)
	return m[0], e
}

// quotient answers x divided by y, towards 0.
func quotient(x, y int) (int, api.Errno) {
	// Of Ints no quotient but that of MinInt and -1 is beyond MaxInt.
	if y == 0 || x == api.MinInt && y == -1 {
		return 0, api.UndefinedResult
	}
	return x / y, api.OK
}

// rest answers what is left of x when it is divided by y, with the sign of x.
func rest(x, y int) (int, api.Errno) {
	if y == 0 {
		return 0, api.UndefinedResult
	}
	return x % y, api.OK
}

// shifted answers the 32 bits of x, shifted to the left, or to the right if by is below 0.
func shifted(x, by int) (int, api.Errno) {
	bits := uint32(x)
	if by < 0 {
		bits >>= uint(-by)
	} else {
		bits <<= uint(by)
	}
	return int(int32(bits)), api.OK
}
