package ntt

import (
	"math/bits"

	"arras/word"
)

// factor is a number below a prime by which many others are multiplied: its share spares each of these products a division.
type factor struct {
	by    uint64
	share uint64 // 2^64 by / q, rounded down
}

// factorOf is a number below q as a factor.
func factorOf(by, q uint64) factor {
	share, _ := bits.Div64(by, 0, q)
	return factor{by: by, share: share}
}

// times is a number's product with the factor modulo q.
func (f factor) times(number, q uint64) uint64 {
	// The quotient is right or one too small, so less than 2q is left. Both products may be beyond a word; their difference isn't, so wrapping round does no harm.
	quotient, _ := bits.Mul64(number, f.share)
	left := number*f.by - quotient*q
	if left >= q {
		return left - q
	}
	return left
}

// progression is so many factors, each the one ahead of it times a ratio modulo q.
func progression(first, ratio, q uint64, count int) []factor {
	list := make([]factor, count)
	for i := range list {
		list[i] = factorOf(first, q)
		first = word.Mul(first, ratio, q)
	}
	return list
}

// plus is the sum of two numbers below q, modulo q.
func plus(a, b, q uint64) uint64 {
	sum := a + b
	if sum >= q {
		return sum - q
	}
	return sum
}

// minus is the difference of two numbers below q, modulo q.
func minus(a, b, q uint64) uint64 {
	if a < b {
		return a + q - b
	}
	return a - b
}
