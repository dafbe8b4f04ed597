package nat

import (
	"math/bits"

	"arras/api"
)

// Div is quotient and rest: a word of the quotient at a time, guessed by the highest words.
func Div(a, b api.Nat) (api.Nat, api.Nat, api.Errno) {
	a, b = trimmed(a), trimmed(b)
	if len(b) == 0 {
		return nil, nil, api.ErrArg
	}
	if len(a) < len(b) {
		return nil, append(api.Nat(nil), a...), api.OK
	}
	// Shifted until its highest bit is 1, the divisor lets its highest word guess well.
	shift := uint(bits.LeadingZeros64(b[len(b)-1]))
	rest := shiftedUp(a, shift)
	divisor := trimmed(shiftedUp(b, shift))
	places := len(a) - len(b) + 1
	quotient := make(api.Nat, places)
	for at := places - 1; at >= 0; at-- {
		quotient[at] = divPlace(rest[at:at+len(b)+1], divisor)
	}
	return own(quotient), shiftedDown(rest, shift), api.OK
}

// shiftedUp is a times 2^shift, one word longer than a: shift is below 64.
func shiftedUp(a api.Nat, shift uint) api.Nat {
	shifted := make(api.Nat, 0, len(a)+1)
	var carry uint64
	for _, w := range a {
		shifted = append(shifted, w<<shift|carry)
		carry = w >> (wordBits - shift)
	}
	return append(shifted, carry)
}

// shiftedDown is a by 2^shift, rounded down: shift is below 64.
func shiftedDown(a api.Nat, shift uint) api.Nat {
	shifted := make(api.Nat, 0, len(a))
	for i, w := range a {
		shifted = append(shifted, w>>shift|wordAt(a, i+1)<<(wordBits-shift))
	}
	return own(shifted)
}

// divPlace is the word of the quotient of part, which is below 2^64 times the divisor and a word longer; part is left as the rest.
func divPlace(part, divisor api.Nat) uint64 {
	word := guessWord(part, divisor)
	// The guess is never too small, and at most two too great.
	for below := takeTimes(part, divisor, word); below > 0; word-- {
		below -= giveBack(part, divisor)
	}
	return word
}

// guessWord is the quotient's word by the two highest words of part and the highest one of the divisor.
func guessWord(part, divisor api.Nat) uint64 {
	last := len(divisor) - 1
	top := divisor[last]
	if part[last+1] >= top {
		return ^uint64(0)
	}
	word, _ := divWord(part[last+1], part[last], top)
	return word
}

// takeTimes takes the divisor times word off part, and answers 1 if part went below 0 by it.
func takeTimes(part, divisor api.Nat, word uint64) uint64 {
	var times, carry, borrow uint64
	for i, w := range divisor {
		times, carry = mulWord(w, word, 0, carry)
		part[i], borrow = subWord(part[i], times, borrow)
	}
	last := len(divisor)
	part[last], borrow = subWord(part[last], carry, borrow)
	return borrow
}

// giveBack adds the divisor to part, and answers 1 if part, having been below 0, no longer is.
func giveBack(part, divisor api.Nat) uint64 {
	var carry uint64
	for i, w := range divisor {
		part[i], carry = addWord(part[i], w, carry)
	}
	last := len(divisor)
	part[last], carry = addWord(part[last], 0, carry)
	return carry
}
