package ring

import (
	"arras/ntt"
	"arras/word"
)

// field is what a ring knows of one of its primes. Lists that it is handed have the ring's size, and numbers below the prime.
type field struct {
	prime uint64
	table *ntt.Table
}

// holds asks whether all numbers of a list are below the prime.
func (f field) holds(list []uint64) bool {
	for _, c := range list {
		if c >= f.prime {
			return false
		}
	}
	return true
}

// sum adds coefficient by coefficient.
func (f field) sum(a, b []uint64) []uint64 {
	return f.paired(a, b, word.Add)
}

// difference takes away coefficient by coefficient.
func (f field) difference(a, b []uint64) []uint64 {
	return f.paired(a, b, word.Sub)
}

// product is that of polynomials: the table has nothing to refuse in lists of this kind.
func (f field) product(a, b []uint64) []uint64 {
	list, _ := f.table.Mul(a, b)
	return list
}

// negated is what each coefficient lacks to 0.
func (f field) negated(list []uint64) []uint64 {
	negated := make([]uint64, len(list))
	for i, c := range list {
		negated[i] = word.Sub(0, c, f.prime)
	}
	return negated
}

// turned has X^k for X; k is odd, so each coefficient comes to a place of its own.
func (f field) turned(list []uint64, k int) []uint64 {
	n := len(list)
	// X^n is -1, so powers come again after 2n of them; as that is a power of two, the lowest bits of k tell, below 0 too.
	around := 2*n - 1
	k &= around
	turned := make([]uint64, n)
	for i, c := range list {
		if at := i * k & around; at < n {
			turned[at] = c
		} else {
			turned[at-n] = word.Sub(0, c, f.prime)
		}
	}
	return turned
}

// lifted is numbers modulo the prime.
func (f field) lifted(v []int64) []uint64 {
	lifted := make([]uint64, len(v))
	for i, number := range v {
		lifted[i] = word.Lift(number, f.prime)
	}
	return lifted
}

// paired is what join makes of each two coefficients, modulo the prime.
func (f field) paired(a, b []uint64, join func(a, b, q uint64) uint64) []uint64 {
	paired := make([]uint64, len(a))
	for i, c := range a {
		paired[i] = join(c, b[i], f.prime)
	}
	return paired
}
