// Package nat is layer 2: whole numbers of any size.
package nat

import (
	"math/bits"

	"arras/api"
)

// Of is a word.
func Of(w uint64) api.Nat {
	return own(api.Nat{w})
}

// Bits is how many bits a natural has.
func Bits(a api.Nat) int {
	a = trimmed(a)
	if len(a) == 0 {
		return 0
	}
	last := len(a) - 1
	return last*wordBits + bits.Len64(a[last])
}

// Cmp holds two naturals against each other.
func Cmp(a, b api.Nat) int {
	a, b = trimmed(a), trimmed(b)
	if len(a) != len(b) {
		return sign(len(a) < len(b))
	}
	for i := len(a) - 1; i >= 0; i-- {
		if a[i] != b[i] {
			return sign(a[i] < b[i])
		}
	}
	return 0
}

// Add is a sum.
func Add(a, b api.Nat) api.Nat {
	a, b = trimmed(a), trimmed(b)
	if len(a) < len(b) {
		a, b = b, a
	}
	sum := make(api.Nat, 0, len(a)+1)
	var word, carry uint64
	for i, w := range a {
		word, carry = addWord(w, wordAt(b, i), carry)
		sum = append(sum, word)
	}
	return own(append(sum, carry))
}

// Sub is a difference.
func Sub(a, b api.Nat) (api.Nat, api.Errno) {
	if Cmp(a, b) < 0 {
		return nil, api.ErrRange
	}
	return less(trimmed(a), trimmed(b)), api.OK
}

// Mul is a product.
func Mul(a, b api.Nat) api.Nat {
	a, b = trimmed(a), trimmed(b)
	product := make(api.Nat, len(b), len(a)+len(b))
	for i, w := range a {
		product = append(product, addTimes(product[i:], b, w))
	}
	return own(product)
}

// Mod is the rest by a word.
func Mod(a api.Nat, w uint64) uint64 {
	if w == 0 {
		return 0
	}
	var rest uint64
	for i := len(a) - 1; i >= 0; i-- {
		_, rest = divWord(rest, a[i], w)
	}
	return rest
}

// own is a natural that was made here, as it is told: the last word isn't 0.
func own(a api.Nat) api.Nat {
	a = trimmed(a)
	if len(a) == 0 {
		return nil
	}
	return a
}

// trimmed is a natural without last words that are 0, and without spare room, lest an append write into what was handed in.
func trimmed(a api.Nat) api.Nat {
	n := len(a)
	for n > 0 && a[n-1] == 0 {
		n--
	}
	return a[:n:n]
}

// sign is what Cmp tells of two that aren't the same.
func sign(isLess bool) int {
	if isLess {
		return -1
	}
	return 1
}

// wordAt is a natural's word, 0 beyond its last one.
func wordAt(a api.Nat, i int) uint64 {
	if i < len(a) {
		return a[i]
	}
	return 0
}

// less is a less b, which isn't greater.
func less(a, b api.Nat) api.Nat {
	difference := make(api.Nat, 0, len(a))
	var word, borrow uint64
	for i, w := range a {
		word, borrow = subWord(w, wordAt(b, i), borrow)
		difference = append(difference, word)
	}
	return own(difference)
}

// addTimes adds b times w to the words of sum, which are as many as b's, and answers the carry.
func addTimes(sum, b api.Nat, w uint64) uint64 {
	var carry uint64
	for i, factor := range b {
		sum[i], carry = mulWord(factor, w, sum[i], carry)
	}
	return carry
}
