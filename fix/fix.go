// Package fix is layer 1: whole numbers that never go over unseen (see shared/doc/01-fix.md).
package fix

import (
	"math"
	"math/bits"
)

// wide is a product as it is: its size in 128 bits, and whether it is below 0.
type wide struct {
	below  bool
	hi, lo uint64
}

// Add: the sum; 0 and false, if that is no number.
func Add(a int, b int) (int, bool) {
	if b > 0 && a > math.MaxInt64-b || b < 0 && a < math.MinInt64-b {
		return 0, false
	}
	return a + b, true
}

// Mul: the product; 0 and false, if that is no number.
func Mul(a int, b int) (int, bool) {
	p := product(a, b)
	if p.hi != 0 {
		return 0, false
	}
	return signed(p.below, p.lo)
}

// Floor: the floor of a divided by b; 0 and false, if b is 0, or that is no number.
func Floor(a int, b int) (int, bool) {
	floor, _, ok := divide(a, b)
	return floor, ok
}

// Round: the floor of a divided by b, and one half; 0 and false, if b is 0, or that is no number.
func Round(a int, b int) (int, bool) {
	floor, left, ok := divide(a, b)
	// Twice what is left over may be no number: it is held against what it lacks of the divisor instead.
	// One more is always a number: where something is left over, the divisor is beyond 1 and -1.
	if ok && size(left) >= size(b)-size(left) {
		floor++
	}
	return floor, ok
}

// MulDiv: the floor of a times b, of any size, divided by c; 0 and false, if c is 0, or that is no number.
func MulDiv(a int, b int, c int) (int, bool) {
	p := product(a, b)
	// Div64 panics at a quotient beyond 64 bits, and at the divisor 0: this sees both.
	if p.hi >= size(c) {
		return 0, false
	}
	quotient, left := bits.Div64(p.hi, p.lo, size(c))
	below := p.below != (c < 0)
	if below && left != 0 {
		if quotient == math.MaxUint64 {
			return 0, false
		}
		quotient++
	}
	return signed(below, quotient)
}

// Compare: -1, 0 or 1, as a times b is below, equal to, or above c times d, of any size.
func Compare(a int, b int, c int, d int) int {
	p, q := product(a, b), product(c, d)
	switch {
	case p.below && q.below:
		return order(q, p)
	case p.below:
		return -1
	case q.below:
		return 1
	}
	return order(p, q)
}

// Root: the greatest number whose square is not above n; 0, if n is below 0.
func Root(n int) int {
	if n < 0 {
		return 0
	}
	// Numbers below 2^32 have squares below 2^64: without a sign none of those tried goes over.
	var root uint64
	for bit := uint64(1) << 31; bit > 0; bit >>= 1 {
		if more := root | bit; more*more <= uint64(n) {
			root = more
		}
	}
	return int(root)
}

// divide tells the floor of a divided by b, and what is left over, which is on b's side of 0.
func divide(a int, b int) (int, int, bool) {
	if b == 0 || a == math.MinInt64 && b == -1 {
		return 0, 0, false
	}
	floor, left := a/b, a%b
	if left != 0 && (left < 0) != (b < 0) {
		floor, left = floor-1, left+b
	}
	return floor, left, true
}

// product multiplies; 0 is never below 0, so that products are equal just if their parts are.
func product(a int, b int) wide {
	hi, lo := bits.Mul64(size(a), size(b))
	return wide{below: (a < 0) != (b < 0) && a != 0 && b != 0, hi: hi, lo: lo}
}

// order holds the sizes of products against each other, whatever their signs.
func order(p wide, q wide) int {
	switch {
	case p.hi < q.hi || p.hi == q.hi && p.lo < q.lo:
		return -1
	case p.hi == q.hi && p.lo == q.lo:
		return 0
	}
	return 1
}

// size has no sign, as the size of the least number is no number with one.
func size(n int) uint64 {
	if n < 0 {
		return -uint64(n)
	}
	return uint64(n)
}

// signed is the number of so many, with a sign; 0 and false, if there is none.
func signed(below bool, n uint64) (int, bool) {
	switch {
	case below && n <= 1<<63:
		return int(-n), true
	case !below && n < 1<<63:
		return int(n), true
	}
	return 0, false
}
