// Package word is layer 1: numbers modulo a word.
package word

import "math/bits"

// wordBits and halfBits are the sizes of a word and of half a word.
const (
	wordBits = 64
	halfBits = 32
)

// centerMost is the greatest modulus of which numbers are centered.
const centerMost uint64 = 1 << 62

// Wide is a product of 128 bits: the high word, and the low one.
func Wide(a, b uint64) (uint64, uint64) {
	aHigh, aLow := halves(a)
	bHigh, bLow := halves(b)
	// Each of these sums stays below 2^64: a product of halves is at most 2^64 - 2^33 + 1.
	low := aLow * bLow
	across := aHigh*bLow + low>>halfBits
	acrossHigh, acrossLow := halves(across)
	middle := aLow*bHigh + acrossLow
	return aHigh*bHigh + acrossHigh + middle>>halfBits, joined(middle, low)
}

// Add is a sum.
func Add(a, b, m uint64) uint64 {
	if m == 0 {
		return 0
	}
	a, b = a%m, b%m
	// a + b may be beyond a word, m - b isn't.
	if lack := m - b; a >= lack {
		return a - lack
	}
	return a + b
}

// Sub is a difference.
func Sub(a, b, m uint64) uint64 {
	if m == 0 {
		return 0
	}
	a, b = a%m, b%m
	if a < b {
		return m - (b - a)
	}
	return a - b
}

// Mul is a product.
func Mul(a, b, m uint64) uint64 {
	if m == 0 {
		return 0
	}
	high, low := Wide(a, b)
	return rest(high, low, m)
}

// Pow is a power.
func Pow(a, n, m uint64) uint64 {
	if m == 0 {
		return 0
	}
	power := 1 % m
	for square := a; n > 0; n >>= 1 {
		if n&1 == 1 {
			power = Mul(power, square, m)
		}
		square = Mul(square, square, m)
	}
	return power
}

// Inv is what a number times is 1: by Euclid's steps.
func Inv(a, m uint64) (uint64, bool) {
	if m < 2 {
		return 0, false
	}
	// At each step old is oldTimes a, and now is nowTimes a, modulo m.
	old, now := m, a%m
	oldTimes, nowTimes := uint64(0), uint64(1)
	for now > 0 {
		quotient := old / now
		old, now = now, old%now
		oldTimes, nowTimes = nowTimes, Sub(oldTimes, Mul(quotient, nowTimes, m), m)
	}
	if old != 1 {
		return 0, false
	}
	return oldTimes, true
}

// Center is the number that is least in size.
func Center(a, m uint64) int64 {
	if m == 0 || m > centerMost {
		return 0
	}
	a %= m
	if a > m/2 {
		return -int64(m - a)
	}
	return int64(a)
}

// Lift is a number's residue.
func Lift(v int64, m uint64) uint64 {
	if v >= 0 {
		return Add(uint64(v), 0, m)
	}
	// Negated as a word, since the least int64 has no size among int64.
	return Sub(0, -uint64(v), m)
}

// halves are a word's high and low half.
func halves(a uint64) (uint64, uint64) {
	return a >> halfBits, uint64(uint32(a))
}

// joined is a word of the low halves of two words.
func joined(high, low uint64) uint64 {
	return high<<halfBits | uint64(uint32(low))
}

// rest is what is left of a number of 128 bits by m, which isn't 0.
func rest(high, low, m uint64) uint64 {
	if high >= m {
		high %= m
	}
	if high == 0 {
		return low % m
	}
	// Shifted until its highest bit is 1, m lets its high half guess well.
	shift := uint(bits.LeadingZeros64(m))
	m <<= shift
	high = high<<shift | low>>(wordBits-shift)
	nextHigh, nextLow := halves(low << shift)
	return restHalf(restHalf(high, nextHigh, m), nextLow, m) >> shift
}

// restHalf is what is left of 2^32 r + next by m: r is below m, and m's highest bit is 1.
func restHalf(r, next, m uint64) uint64 {
	top, bottom := halves(m)
	guess, left := r/top, r%top
	// The guess is never too small, at most two too great, and at most 2^32 + 1: times the low half it is within a word.
	for guess*bottom > joined(left, next) {
		guess--
		left += top
		if left>>halfBits > 0 {
			break
		}
	}
	// Both sides may be beyond a word; their difference isn't, so wrapping round does no harm.
	return r<<halfBits + next - guess*m
}
