// Package fix is layer 1: see shared/doc/01-fix.md.
package fix

import (
	"math"
	"math/bits"

	"psaltery/api"
)

// mostShift is the widest rounding that is told apart; beyond it an int64 has no half left to look at.
const mostShift = 62

// within tells the number of its own kind nearest to n between two bounds. The lower bound is asked first, which matters only where the bounds lie crossed.
func within[T int16 | int32 | int64](n int64, least, most T) T {
	if n < int64(least) {
		return least
	}
	if n > int64(most) {
		return most
	}
	return T(n)
}

// Sat16: the nearest number that an int16 has.
func Sat16(n int64) int16 { return within[int16](n, math.MinInt16, math.MaxInt16) }

// Sat32: the nearest number that an int32 has.
func Sat32(n int64) int32 { return within[int32](n, math.MinInt32, math.MaxInt32) }

// Clip: least if n is below it, else most if n is above that, else n.
func Clip(n, least, most int64) int64 { return within(n, least, most) }

// Round: n in 2^s-th parts, the nearest, halves upwards.
func Round(n int64, s int) int64 {
	s = int(within[int64](int64(s), 0, mostShift))
	if s == 0 {
		return n
	}
	// The highest bit that is lost is the half: adding it afterwards can't go round, as adding it to n could.
	return n>>s + n>>(s-1)&1
}

// Add: the sum, saturated.
func Add(a, b int32) int32 { return Sat32(int64(a) + int64(b)) }

// Sub: the difference, saturated.
func Sub(a, b int32) int32 { return Sat32(int64(a) - int64(b)) }

// Mul15: the product with a Q15 number, saturated.
func Mul15(a int32, b int16) int32 { return Sat32(Round(int64(a)*int64(b), 15)) }

// Mul31: the product with a Q31 number, saturated.
func Mul31(a, b int32) int32 { return Sat32(Round(int64(a)*int64(b), 31)) }

// Dot: the sum of products, rounded by s bits once at its end, saturated.
func Dot(a []int32, b []int16, s int) (int32, api.Errno) {
	if len(a) != len(b) || s < 0 || s > mostShift {
		return 0, api.ErrArg
	}
	if len(a) > api.MaxTaps {
		return 0, api.ErrLong
	}
	// MaxTaps products of at most 2^46 make at most 2^62: the sum can't go round.
	var sum int64
	for i, n := range a {
		sum += int64(n) * int64(b[i])
	}
	return Sat32(Round(sum, s)), api.OK
}

// Spare: how often n may be doubled and still be an int32.
func Spare(n int32) int {
	if n < 0 {
		// Below 0 an int32 reaches one further, and ^n is what n is beyond -1.
		n = ^n
	}
	return bits.LeadingZeros32(uint32(n)) - 1
}
