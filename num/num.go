// Package num is layer 1: checked and saturating integer arithmetic.
package num

import (
	"math/bits"

	"ganger/api"
)

// Add returns a + b, or ErrRange.
func Add(a int, b int) (int, api.Errno) {
	// A wrapped sum lies on the wrong side of a.
	if sum := a + b; (sum > a) == (b > 0) {
		return sum, api.OK
	}
	return 0, api.ErrRange
}

// Sub returns a - b, or ErrRange.
func Sub(a int, b int) (int, api.Errno) {
	if diff := a - b; (diff < a) == (b > 0) {
		return diff, api.OK
	}
	return 0, api.ErrRange
}

// Mul returns a * b, or ErrRange.
func Mul(a int, b int) (int, api.Errno) {
	high, low := bits.Mul64(size(a), size(b))
	negative := (a < 0) != (b < 0)
	switch {
	case high != 0 || low > 1<<63:
		return 0, api.ErrRange
	case negative:
		return int(-low), api.OK
	case low == 1<<63:
		return 0, api.ErrRange
	}
	return int(low), api.OK
}

// size is |n|; unsigned, because |MinInt| is no int.
func size(n int) uint64 {
	if n < 0 {
		return -uint64(n)
	}
	return uint64(n)
}

// Div returns the quotient and the remainder of the Euclidean division.
func Div(a int, b int) (int, int, api.Errno) {
	if b == 0 {
		return 0, 0, api.ErrArg
	}
	if a == api.MinInt && b == -1 {
		return 0, 0, api.ErrRange
	}
	q, r := a/b, a%b
	if r >= 0 {
		return q, r, api.OK
	}
	// Go rounds towards 0; a negative remainder is one divisor too low.
	if b > 0 {
		return q - 1, r + b, api.OK
	}
	return q + 1, r - b, api.OK
}

// Sum adds one number after the other, and stays at a bound that it would exceed.
func Sum(l ...int) int {
	total := 0
	for _, n := range l {
		sum, e := Add(total, n)
		if e != api.OK {
			sum = bound(n < 0)
		}
		total = sum
	}
	return total
}

// Times returns a * b, or the bound that it exceeds.
func Times(a int, b int) int {
	product, e := Mul(a, b)
	if e != api.OK {
		return bound((a < 0) != (b < 0))
	}
	return product
}

func bound(low bool) int {
	if low {
		return api.MinInt
	}
	return api.MaxInt
}

// MulDiv returns a*b/c, rounded down.
func MulDiv(a int, b int, c int) (int, api.Errno) {
	if a < 0 || b < 0 || c < 1 {
		return 0, api.ErrArg
	}
	high, low := bits.Mul64(uint64(a), uint64(b))
	if high >= uint64(c) {
		return 0, api.ErrRange
	}
	q, _ := bits.Div64(high, low, uint64(c))
	if q > api.MaxInt {
		return 0, api.ErrRange
	}
	return int(q), api.OK
}

// Up returns the smallest power of two that is not less than n, and its exponent.
func Up(n int) (int, int) {
	if n < 1 || n > 1<<62 {
		return 0, 0
	}
	exponent := bits.Len(uint(n - 1))
	return 1 << exponent, exponent
}

// Cut returns n, moved to the nearer bound if it is beyond one.
func Cut[T int | int32 | int16 | int8](n int, low T, high T) T {
	switch {
	case low > high || n < int(low):
		return low
	case n > int(high):
		return high
	}
	return T(n)
}
