package cipher

import (
	"cmp"
	"slices"

	"arras/api"
	"arras/crt"
	"arras/nat"
	"arras/param"
	"arras/ring"
	"arras/tape"
	"arras/texts"
)

// A ciphertext has two parts; what was multiplied has three.
const (
	fewestParts = 2
	mostParts   = 3
)

// scheme is parameters that may be, with their ring.
type scheme struct {
	api.Params
	ring *ring.Ring
}

// veil is what hides a text: small elements of the top level.
type veil struct{ u, e, f api.Poly }

// schemeOf is the scheme of parameters, if they may be.
func schemeOf(p api.Params) (scheme, api.Errno) {
	if err := param.Check(p); err != api.OK {
		return scheme{}, err
	}
	// Parameters that may be have a ring.
	elements, _ := ring.New(p.N, p.Q)
	return scheme{Params: p, ring: elements}, api.OK
}

// isText asks whether a list is a text.
func (x scheme) isText(text []uint64) bool {
	return within(text, x.N, 0, x.T-1)
}

// isSecret asks whether a list is a secret.
func (x scheme) isSecret(s []int64) bool {
	return within(s, x.N, -1, 1)
}

// areOf asks whether all are elements of a level.
func (x scheme) areOf(level int, elements ...api.Poly) bool {
	for _, a := range elements {
		if at, err := x.ring.Level(a); err != api.OK || at != level {
			return false
		}
	}
	return true
}

// level is that of all parts of a ciphertext.
func (x scheme) level(c api.Cipher) (int, api.Errno) {
	if len(c.C) < fewestParts || len(c.C) > mostParts {
		return 0, api.ErrForm
	}
	level, err := x.ring.Level(c.C[0])
	if err != api.OK || !x.areOf(level, c.C[1:]...) {
		return 0, api.ErrForm
	}
	return level, api.OK
}

// veilOf draws what hides a text. A nil tape answers ErrArg to the first draw.
func (x scheme) veilOf(t *tape.Tape) (veil, api.Errno) {
	small := func(n int) ([]int64, api.Errno) { return t.Errors(n, x.Width) }
	var drawn [3]api.Poly
	for i, draw := range []func(n int) ([]int64, api.Errno){t.Ternaries, small, small} {
		numbers, err := draw(x.N)
		if err != api.OK {
			return veil{}, err
		}
		drawn[i] = x.lifted(numbers, param.Top(x.Params))
	}
	return veil{u: drawn[0], e: drawn[1], f: drawn[2]}, api.OK
}

// hidden is the ciphertext of a spread, by a key of its level.
func (x scheme) hidden(k api.Public, v veil, spread api.Poly) api.Cipher {
	first := joined(x.ring.Add, joined(x.ring.Mul, k.B, v.u), v.e, spread)
	second := joined(x.ring.Add, joined(x.ring.Mul, k.A, v.u), v.f)
	return api.Cipher{C: []api.Poly{first, second}}
}

// held is what a ciphertext holds by a secret, and the level.
func (x scheme) held(s []int64, c api.Cipher) (api.Poly, int, api.Errno) {
	level, err := x.level(c)
	if err != api.OK {
		return api.Poly{}, 0, err
	}
	if !x.isSecret(s) {
		return api.Poly{}, 0, api.ErrForm
	}
	secret := x.lifted(s, level)
	// From the last part on, each step brings one more power of the secret to all that were gone through.
	last := len(c.C) - 1
	sum := c.C[last]
	for _, part := range slices.Backward(c.C[:last]) {
		sum = joined(x.ring.Add, part, joined(x.ring.Mul, secret, sum))
	}
	return sum, level, api.OK
}

// told is what an element of a level tells as a text.
func (x scheme) told(held api.Poly, level int) []uint64 {
	// There is such a level, so nothing can be refused.
	modulus, _ := param.Modulus(x.Params, level)
	numbers := x.numbers(held, level)
	for i, v := range numbers {
		// A modulus is above 0.
		numbers[i], _ = nat.Near(nat.Times(v, api.Int{Abs: nat.Of(x.T)}), modulus)
	}
	// T is a prime above 2, so it is a row.
	text, _ := crt.Element(numbers, []uint64{x.T})
	return text.R[0]
}

// spread is a text's at a level.
func (x scheme) spread(text []uint64, level int) api.Poly {
	// There is such a level, and it is a text, so nothing can be refused.
	spread, _ := texts.Spread(x.Params, level, text)
	return spread
}

// numbers are the centered ones of an element of a level.
func (x scheme) numbers(a api.Poly, level int) []api.Int {
	// A level's primes are a row, so nothing can be refused.
	numbers, _ := crt.Wholes(a, x.row(level))
	return numbers
}

// row is a level's primes.
func (x scheme) row(level int) []uint64 {
	return x.Q[:level+1]
}

// lifted is the element of a level of so many numbers as elements have.
func (x scheme) lifted(numbers []int64, level int) api.Poly {
	element, _ := x.ring.Lift(numbers, level)
	return element
}

// joined is what a ring's method value makes of elements of one level, from the first one on.
func joined(join func(a, b api.Poly) (api.Poly, api.Errno), first api.Poly, more ...api.Poly) api.Poly {
	for _, a := range more {
		// All are of one level, so nothing can be refused.
		first, _ = join(first, a)
	}
	return first
}

// within asks whether a list is so many numbers, each from the least to the most.
func within[Number cmp.Ordered](list []Number, count int, least, most Number) bool {
	return len(list) == count && !slices.ContainsFunc(list, func(v Number) bool { return v < least || v > most })
}

// greatest is the greatest size of numbers.
func greatest(numbers []api.Int) api.Nat {
	var size api.Nat
	for _, v := range numbers {
		if nat.Cmp(v.Abs, size) > 0 {
			size = v.Abs
		}
	}
	return size
}
