// Package fix is layer 1: numbers with 16 bits behind the point, and whole ones of 32 bits.
// A number is an int that stands for its One-th part. See shared/doc/01-fix.md.
package fix

import (
	"mezzotint/api"
)

// Fits tells whether n is from MinFix to MaxFix.
func Fits(n int) bool {
	return api.MinFix <= n && n <= api.MaxFix
}

// Add answers a + b.
func Add(a, b int) (int, api.Errno) {
	if !Fits(a) || !Fits(b) {
		return 0, api.RangeCheck
	}
	return outcome(a + b)
}

// Sub answers a - b.
func Sub(a, b int) (int, api.Errno) {
	if !Fits(a) || !Fits(b) {
		return 0, api.RangeCheck
	}
	return outcome(a - b)
}

// Mul answers a times b, rounded.
func Mul(a, b int) (int, api.Errno) {
	if !Fits(a) || !Fits(b) {
		return 0, api.RangeCheck
	}
	// No product of two that fit is beyond 2^62, so an int holds it whole till it is rounded.
	return outcome(nearest(a*b, api.One))
}

// Div answers a divided by b, rounded.
func Div(a, b int) (int, api.Errno) {
	if !Fits(a) || !Fits(b) {
		return 0, api.RangeCheck
	}
	if b == 0 {
		return 0, api.UndefinedResult
	}
	return outcome(nearest(a*api.One, b))
}

// Sum answers 0 with each number Added, in order: the first Add that is refused refuses the whole,
// even if later numbers would lead back to a sum that fits.
func Sum(list ...int) (int, api.Errno) {
	sum := 0
	for _, n := range list {
		next, e := Add(sum, n)
		if e != api.OK {
			return 0, e
		}
		sum = next
	}
	return sum, api.OK
}

// FromInt answers the number that stands for the whole number n.
func FromInt(n int) (int, api.Errno) {
	// Held against the bounds' whole parts, as n times One may be more than an int holds.
	if n < api.MinFix/api.One || n > api.MaxFix/api.One {
		return 0, api.RangeCheck
	}
	return n * api.One, api.OK
}

// Floor answers the greatest whole number that is not above a; 0, if a does not fit.
func Floor(a int) int {
	if !Fits(a) {
		return 0
	}
	return wholeBelow(a)
}

// Ceiling answers the least whole number that is not below a.
func Ceiling(a int) (int, api.Errno) {
	if !Fits(a) {
		return 0, api.RangeCheck
	}
	return outcome(wholeBelow(a + api.One - 1))
}

// Round answers the nearest whole number, of two as near the greater one.
func Round(a int) (int, api.Errno) {
	if !Fits(a) {
		return 0, api.RangeCheck
	}
	return outcome(wholeBelow(a + api.One/2))
}

// Truncate answers a without what is behind the point; 0, if a does not fit.
func Truncate(a int) int {
	if !Fits(a) {
		return 0
	}
	return a / api.One * api.One
}

// Sqrt answers the root of a, rounded.
func Sqrt(a int) (int, api.Errno) {
	if !Fits(a) || a < 0 {
		return 0, api.RangeCheck
	}
	// The root of a / One, told in One-th parts, is the root of a times One.
	square := a * api.One
	root := rootBelow(square)
	// Halfway to the next root lies root*root + root + 1/4: no whole square is just there.
	if square-root*root > root {
		root++
	}
	return root, api.OK
}

// outcome refuses a result that does not fit.
func outcome(n int) (int, api.Errno) {
	if !Fits(n) {
		return 0, api.UndefinedResult
	}
	return n, api.OK
}

// nearest divides n by d, which is not 0 and fits, to the nearest, of two as near to the one farther from 0.
func nearest(n, d int) int {
	quotient, rest := n/d, n%d
	// The rest is doubled, rather than n raised by half of d, so that an odd d has its exact half.
	if 2*size(rest) < size(d) {
		return quotient
	}
	if (n < 0) != (d < 0) {
		return quotient - 1
	}
	return quotient + 1
}

// size is how far n is from 0; n is never the least int here.
func size(n int) int {
	if n < 0 {
		return -n
	}
	return n
}

// wholeBelow clears the bits behind the point, which in two's complement never raises a number.
func wholeBelow(n int) int {
	return n &^ (api.One - 1)
}

// rootBelow answers the greatest int whose square is not above n, which is from 0 to MaxFix times One.
func rootBelow(n int) int {
	root := 0
	// MaxFix times One is below 2^48, so a root has at most 24 bits.
	for bit := 1 << 23; bit > 0; bit >>= 1 {
		if next := root | bit; next*next <= n {
			root = next
		}
	}
	return root
}
