package scale

import (
	"arras/api"
	"arras/crt"
	"arras/nat"
)

// Each prime of the wide ring is below 2^wideSize, and above 2^wideBits.
const (
	wideSize = 61
	wideBits = wideSize - 1
)

// quotient is by what numbers are scaled.
type quotient struct {
	times api.Int
	by    api.Nat
}

// level is what a scale knows of one.
type level struct {
	row       []uint64
	wide      []uint64 // the first primes of the wide ring, as many as its sums need
	byLast    quotient // to the level beneath
	byModulus quotient // of what was multiplied
}

// levelOf is the level of a row of primes that ends with last.
func levelOf(row, wide []uint64, plain, last uint64) level {
	return level{
		row:       row,
		wide:      wide,
		byLast:    quotientOf(1, nat.Of(last)),
		byModulus: quotientOf(plain, crt.Product(row)),
	}
}

// quotientOf is so many times, by a number that isn't 0.
func quotientOf(times uint64, by api.Nat) quotient {
	return quotient{times: api.Int{Abs: nat.Of(times)}, by: by}
}

// nearest is the whole number that is nearest to v, scaled.
func (q quotient) nearest(v api.Int) api.Int {
	near, _ := nat.Near(nat.Times(v, q.times), q.by)
	return near
}

// widened is the element of the wide ring that has the same numbers.
func (l level) widened(a api.Poly) api.Poly {
	numbers, _ := crt.Wholes(a, l.row)
	wide, _ := crt.Element(numbers, l.wide)
	return wide
}

// over is the element of one row's primes of what do makes of the numbers that an element has by another row's.
func over(a api.Poly, from, to []uint64, do func(v api.Int) api.Int) api.Poly {
	numbers, _ := crt.Wholes(a, from)
	for i, v := range numbers {
		numbers[i] = do(v)
	}
	done, _ := crt.Element(numbers, to)
	return done
}

// wideCount is how many primes of the wide ring a row's sums need: numbers of both signs, each of at most n products of half the modulus for each two elements.
func wideCount(n int, row []uint64) int {
	half, _, _ := nat.Div(crt.Product(row), nat.Of(2))
	most := nat.Mul(nat.Of(uint64(mostProducts*n)), nat.Mul(half, half))
	// A product of more than twice the most has them all; each prime brings wideBits bits, at least.
	return (nat.Bits(most) + 1 + wideBits - 1) / wideBits
}
