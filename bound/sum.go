package bound

import (
	"arras/api"
	"arras/crt"
	"arras/nat"
	"arras/param"
)

// stage is a level of parameters that may be. Numbers of coefficients, T and Width multiplied by one another stay within a word.
type stage struct {
	size, plain, width uint64
	row                []uint64 // the level's primes
	rest               api.Nat
}

// sum is a bound that grows.
type sum struct{ total api.Nat }

// adder adds a product of factors to a sum.
type adder func(factors ...api.Nat)

// levelOf is a level of parameters, if there is one.
func levelOf(p api.Params, level int) (stage, api.Errno) {
	_, rest, err := param.Step(p, level)
	if err != api.OK {
		return stage{}, err
	}
	return stage{size: uint64(p.N), plain: p.T, width: uint64(p.Width), row: p.Q[:level+1], rest: nat.Of(rest)}, api.OK
}

// modulus is the level's.
func (l stage) modulus() api.Nat {
	return crt.Product(l.row)
}

// rounding is what comes of halves, one to each number of so many parts: the second part is multiplied with the secret, the third one twice.
func (l stage) rounding(parts int) api.Nat {
	halves, power := uint64(0), uint64(1)
	for range parts {
		halves += power
		power *= l.size
	}
	return nat.Of((halves + 1) / 2)
}

// summed is what terms add up to.
func summed(terms func(add adder)) api.Nat {
	var s sum
	terms(s.add)
	return s.total
}

// add makes a sum greater by a product.
func (s *sum) add(factors ...api.Nat) {
	s.total = nat.Add(s.total, product(factors...))
}

// product is that of all factors.
func product(factors ...api.Nat) api.Nat {
	times := nat.Of(1)
	for _, factor := range factors {
		times = nat.Mul(times, factor)
	}
	return times
}

// up is a quotient by a number above 0, rounded up.
func up(a, by api.Nat) api.Nat {
	quotient, rest, _ := nat.Div(a, by)
	if nat.Bits(rest) > 0 {
		quotient = nat.Add(quotient, nat.Of(1))
	}
	return quotient
}

// sizeOf is the sizes of numbers together.
func sizeOf(numbers []int64) uint64 {
	var size uint64
	for _, v := range numbers {
		size += uint64(max(v, -v))
	}
	return size
}
