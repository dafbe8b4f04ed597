package crt

import (
	"arras/api"
	"arras/nat"
	"arras/word"
)

// number grows prime by prime.
type number struct{ size api.Nat }

// step is what a number needs to know to grow by one of a row's primes.
type step struct {
	prime uint64
	ahead api.Nat // the product of the primes ahead of it
	part  uint64  // what times that product is 1 modulo the prime
}

// share is a step, and the residue that a number has to get by it.
type share struct {
	step
	residue uint64
}

// plan is the steps of a row: numbers are many, and these the same for all of them.
type plan struct {
	steps   []step
	product api.Nat
}

// grown is a number that has grown by one thing behind the other.
func grown[T any](n number, things []T, grow func(n number, by T) number) number {
	for _, by := range things {
		n = grow(n, by)
	}
	return n
}

// times is a number made greater by a factor.
func (n number) times(factor uint64) number {
	return number{size: nat.Mul(nat.Of(factor), n.size)}
}

// joined is the number with one more residue: of the primes ahead it keeps those it has, since what is added is a multiple of their product.
func (n number) joined(s share) number {
	lack := word.Sub(s.residue, nat.Mod(n.size, s.prime), s.prime)
	count := word.Mul(lack, s.part, s.prime)
	return number{size: nat.Add(n.size, number{size: s.ahead}.times(count).size)}
}

// planOf is a row's plan. Its primes are unlike, so each product has an inverse modulo the next of them.
func planOf(row []uint64) plan {
	steps := make([]step, len(row))
	product := number{size: nat.Of(1)}
	for place, q := range row {
		part, _ := word.Inv(nat.Mod(product.size, q), q)
		steps[place] = step{prime: q, ahead: product.size, part: part}
		product = product.times(q)
	}
	return plan{steps: steps, product: product.size}
}

// whole is the centered number of residues.
func (p plan) whole(residueAt func(place int) uint64) api.Int {
	shares := make([]share, len(p.steps))
	for place, s := range p.steps {
		shares[place] = share{step: s, residue: residueAt(place)}
	}
	return p.centered(grown(number{}, shares, number.joined))
}

// centered is a number below the product, or less by the product: that of both which is least in size.
func (p plan) centered(n number) api.Int {
	// The product is odd, so the two never have one size; nor is the lack ever 0.
	lack, _ := nat.Sub(p.product, n.size)
	if nat.Cmp(n.size, lack) < 0 {
		return api.Int{Abs: n.size}
	}
	return api.Int{Neg: true, Abs: lack}
}
