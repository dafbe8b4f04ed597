package prime

import (
	"arras/api"
	"arras/word"
)

// field knows its prime, which is odd.
type field struct{ prime uint64 }

// Root finds the least root of one.
func Root(q, n uint64) (uint64, api.Errno) {
	if !isOrder(n) || q%n != 1 || !Is(q) {
		return 0, api.ErrArg
	}
	f := field{prime: q}
	// What is no square has -1 as its power (q - 1)/2; so has its power (q - 1)/n as its own power n/2.
	root := word.Pow(firstBelow(q, f.isNoSquare), (q-1)/n, q)
	return f.leastRoot(root, n), api.OK
}

// firstBelow is the least number below an end that passes; 0, if there is none.
func firstBelow(end uint64, passes func(n uint64) bool) uint64 {
	for n := range end {
		if passes(n) {
			return n
		}
	}
	return 0
}

// isNoSquare asks as Euler does. Half of all numbers but 0 are no squares, and the least of them is small.
func (f field) isNoSquare(n uint64) bool {
	return word.Pow(n, (f.prime-1)/2, f.prime) == f.prime-1
}

// leastRoot is the least of all roots that have n unlike powers, as the root has: they are its odd powers.
func (f field) leastRoot(root, n uint64) uint64 {
	square := word.Mul(root, root, f.prime)
	least := root
	for range n/2 - 1 {
		root = word.Mul(root, square, f.prime)
		least = min(least, root)
	}
	return least
}
