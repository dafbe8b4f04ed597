package nat

import "math/bits"

// wordBits and halfBits are the sizes of a word and of half a word.
const (
	wordBits = 64
	halfBits = 32
)

// halves are a word's high and low half.
func halves(a uint64) (uint64, uint64) {
	return a >> halfBits, uint64(uint32(a))
}

// joined is a word of the low halves of two words.
func joined(high, low uint64) uint64 {
	return high<<halfBits | uint64(uint32(low))
}

// addWord is a + b + carry as a word, and the next carry, 0 or 1 as the one that comes in.
func addWord(a, b, carry uint64) (uint64, uint64) {
	aHigh, aLow := halves(a)
	bHigh, bLow := halves(b)
	low := aLow + bLow + carry
	high := aHigh + bHigh + low>>halfBits
	return joined(high, low), high >> halfBits
}

// subWord is a - b - borrow as a word, and the next borrow, 0 or 1 as the one that comes in.
func subWord(a, b, borrow uint64) (uint64, uint64) {
	aHigh, aLow := halves(a)
	bHigh, bLow := halves(b)
	// A difference of halves that is below 0 wraps round: its highest bit tells.
	low := aLow - bLow - borrow
	high := aHigh - bHigh - low>>(wordBits-1)
	return joined(high, low), high >> (wordBits - 1)
}

// mulWord is a b + more + carry, at most 2^128 - 1, as a word and the next carry.
func mulWord(a, b, more, carry uint64) (uint64, uint64) {
	aHigh, aLow := halves(a)
	bHigh, bLow := halves(b)
	moreHigh, moreLow := halves(more)
	carryHigh, carryLow := halves(carry)
	// A product of halves and two halves more is at most 2^64 - 1.
	low := aLow*bLow + moreLow + carryLow
	across := aHigh*bLow + moreHigh + low>>halfBits
	acrossHigh, acrossLow := halves(across)
	middle := aLow*bHigh + carryHigh + acrossLow
	return joined(middle, low), aHigh*bHigh + acrossHigh + middle>>halfBits
}

// divWord is 2^64 high + low by d, as quotient and rest: high is below d.
func divWord(high, low, d uint64) (uint64, uint64) {
	// Shifted until its highest bit is 1, d lets its high half guess well.
	shift := uint(bits.LeadingZeros64(d))
	d <<= shift
	high = high<<shift | low>>(wordBits-shift)
	nextHigh, nextLow := halves(low << shift)
	upper, rest := divHalf(high, nextHigh, d)
	lower, rest := divHalf(rest, nextLow, d)
	return joined(upper, lower), rest >> shift
}

// divHalf is 2^32 r + next by d, as quotient and rest: r is below d, and d's highest bit is 1.
func divHalf(r, next, d uint64) (uint64, uint64) {
	top, bottom := halves(d)
	guess, left := r/top, r%top
	// The guess is never too small, at most two too great, and at most 2^32 + 1: times the low half it is within a word.
	for guess*bottom > joined(left, next) {
		guess--
		left += top
		if left>>halfBits > 0 {
			break
		}
	}
	// Both sides may be beyond a word; their difference isn't, so wrapping round does no harm.
	return guess, r<<halfBits + next - guess*d
}
