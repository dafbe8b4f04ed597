package eval_test

import (
	"math/big"
	"slices"
	"testing"

	"arras/api"
)

// An independent reckoning: the chapter's words one by one, by whole numbers of math/big.

func word(w uint64) *big.Int { return new(big.Int).SetUint64(w) }

func productOf(row []uint64) *big.Int {
	product := big.NewInt(1)
	for _, q := range row {
		product.Mul(product, word(q))
	}
	return product
}

// center is the number least in size that is v modulo an odd number.
func center(v, around *big.Int) *big.Int {
	rest := new(big.Int).Mod(v, around)
	if new(big.Int).Lsh(rest, 1).Cmp(around) > 0 {
		rest.Sub(rest, around)
	}
	return rest
}

// nearest is v by a number above 0: half of it is added, then the quotient is rounded down, so that halves go up.
func nearest(v, by *big.Int) *big.Int {
	twice := new(big.Int).Lsh(v, 1)
	twice.Add(twice, by)
	// by is above 0, so Euclid's quotient is the one rounded down.
	return twice.Div(twice, new(big.Int).Lsh(by, 1))
}

// whole is a polynomial of whole numbers.
type whole []*big.Int

func (a whole) plus(b whole) whole {
	sum := make(whole, len(a))
	for i, v := range a {
		sum[i] = new(big.Int).Add(v, b[i])
	}
	return sum
}

// scaled is what is nearest to each number times a factor by a divisor.
func (a whole) scaled(times, by *big.Int) whole {
	near := make(whole, len(a))
	for i, v := range a {
		near[i] = nearest(new(big.Int).Mul(times, v), by)
	}
	return near
}

// turned has X^power for X.
func (a whole) turned(power int) whole {
	n := len(a)
	out := make(whole, n)
	for i, v := range a {
		at := i * power % (2 * n)
		if at >= n {
			v = new(big.Int).Neg(v)
		}
		out[at%n] = v
	}
	return out
}

// longWay is the product modulo X^n + 1, number by number: what goes beyond n comes back less than 0.
func longWay(a, b whole) whole {
	n := len(a)
	out := make(whole, n)
	for i := range out {
		out[i] = new(big.Int)
	}
	for i, c := range a {
		for j, d := range b {
			product := new(big.Int).Mul(c, d)
			if i+j < n {
				out[i+j].Add(out[i+j], product)
			} else {
				out[i+j-n].Sub(out[i+j-n], product)
			}
		}
	}
	return out
}

// shortWay is the same, by one product of two great numbers in which all of a polynomial's stand far enough from one another.
func shortWay(a, b whole) whole {
	n := len(a)
	room := uint(64)
	for _, v := range slices.Concat(a, b) {
		room = max(room, uint(2*v.BitLen()+32))
	}
	both := scattered(new(big.Int).Mul(gathered(a, room), gathered(b, room)), 2*n, room)
	for i, v := range both[n:] {
		both[i].Sub(both[i], v)
	}
	return both[:n]
}

// gathered is the value of a polynomial of 2, 4, 8 .. numbers at a power of two.
func gathered(a whole, room uint) *big.Int {
	if len(a) == 1 {
		return a[0]
	}
	half := len(a) / 2
	v := new(big.Int).Lsh(gathered(a[half:], room), room*uint(half))
	return v.Add(v, gathered(a[:half], room))
}

// scattered is the polynomial that has this value, of numbers that are small beside the power.
func scattered(v *big.Int, count int, room uint) whole {
	if count == 1 {
		return whole{v}
	}
	width := room * uint(count/2)
	end := new(big.Int).Lsh(big.NewInt(1), width)
	low := new(big.Int).And(v, new(big.Int).Sub(end, big.NewInt(1)))
	if low.Bit(int(width-1)) == 1 {
		low.Sub(low, end)
	}
	high := new(big.Int).Sub(v, low)
	return append(scattered(low, count/2, room), scattered(high.Rsh(high, width), count/2, room)...)
}

func (a whole) times(b whole) whole {
	if len(a) <= 32 {
		return longWay(a, b)
	}
	return shortWay(a, b)
}

func TestWaysOfReckoningAgree(t *testing.T) {
	x := &mixer{}
	for _, n := range []int{8, 64} {
		row := primesBelow(n, primeEnd, 3)
		a, b := wholeOf(x.element(n, row), row), wholeOf(x.element(n, row), row)
		if !slices.EqualFunc(longWay(a, b), shortWay(a, b), func(v, w *big.Int) bool { return v.Cmp(w) == 0 }) {
			t.Error(n)
		}
	}
}

// wholeOf is an element's numbers: each residue times what is 1 modulo its prime and 0 modulo all others.
func wholeOf(a api.Poly, row []uint64) whole {
	around := productOf(row)
	var ones []*big.Int
	for _, q := range row {
		others := new(big.Int).Div(around, word(q))
		ones = append(ones, others.Mul(others, new(big.Int).ModInverse(others, word(q))))
	}
	var numbers whole
	for i := range a.R[0] {
		sum := new(big.Int)
		for place := range row {
			sum.Add(sum, new(big.Int).Mul(word(a.R[place][i]), ones[place]))
		}
		numbers = append(numbers, center(sum, around))
	}
	return numbers
}

// elementOf is the element of numbers.
func elementOf(numbers whole, row []uint64) api.Poly {
	var a api.Poly
	for _, q := range row {
		list := make([]uint64, len(numbers))
		for i, v := range numbers {
			list[i] = new(big.Int).Mod(v, word(q)).Uint64()
		}
		a.R = append(a.R, list)
	}
	return a
}

// rowOf is the primes of a ciphertext's level.
func rowOf(p api.Params, c api.Cipher) []uint64 { return p.Q[:len(c.C[0].R)] }

// partsOf are a ciphertext's parts as whole numbers.
func partsOf(p api.Params, c api.Cipher) []whole {
	var parts []whole
	for _, a := range c.C {
		parts = append(parts, wholeOf(a, rowOf(p, c)))
	}
	return parts
}

func cipherOf(row []uint64, parts ...whole) api.Cipher {
	var c api.Cipher
	for _, numbers := range parts {
		c.C = append(c.C, elementOf(numbers, row))
	}
	return c
}

func nought(n int) whole {
	list := make(whole, n)
	for i := range list {
		list[i] = new(big.Int)
	}
	return list
}

// centeredOf are a text's coefficients, each the least in size.
func centeredOf(p api.Params, text []uint64) whole {
	var numbers whole
	for _, c := range text {
		numbers = append(numbers, center(word(c), word(p.T)))
	}
	return numbers
}

// spreadOf are those, each times the step of a row's level.
func spreadOf(p api.Params, row []uint64, text []uint64) whole {
	step := new(big.Int).Div(productOf(row), word(p.T))
	return centeredOf(p, text).scaled(step, big.NewInt(1))
}

func addOf(p api.Params, a, b api.Cipher) api.Cipher {
	first, second := partsOf(p, a), partsOf(p, b)
	for len(first) < len(second) {
		first = append(first, nought(p.N))
	}
	for len(second) < len(first) {
		second = append(second, nought(p.N))
	}
	for i, numbers := range second {
		first[i] = first[i].plus(numbers)
	}
	return cipherOf(rowOf(p, a), first...)
}

func addTextOf(p api.Params, a api.Cipher, text []uint64) api.Cipher {
	parts := partsOf(p, a)
	parts[0] = parts[0].plus(spreadOf(p, rowOf(p, a), text))
	return cipherOf(rowOf(p, a), parts...)
}

func mulTextOf(p api.Params, a api.Cipher, text []uint64) api.Cipher {
	parts := partsOf(p, a)
	for i, numbers := range parts {
		parts[i] = numbers.times(centeredOf(p, text))
	}
	return cipherOf(rowOf(p, a), parts...)
}

func mulOf(p api.Params, a, b api.Cipher) api.Cipher {
	c, d, row := partsOf(p, a), partsOf(p, b), rowOf(p, a)
	sums := []whole{c[0].times(d[0]), c[0].times(d[1]).plus(c[1].times(d[0])), c[1].times(d[1])}
	for i, sum := range sums {
		sums[i] = sum.scaled(word(p.T), productOf(row))
	}
	return cipherOf(row, sums...)
}

// switchedOf is the sum over the digits of an element of a row, times each side of a key, cut to the row.
func switchedOf(f api.Poly, k api.Switch, row []uint64) [2]whole {
	sums := [2]whole{nought(len(f.R[0])), nought(len(f.R[0]))}
	for i, q := range row {
		digit := wholeOf(api.Poly{R: f.R[i : i+1]}, []uint64{q})
		for side, elements := range [2][]api.Poly{k.B, k.A} {
			sums[side] = sums[side].plus(digit.times(wholeOf(api.Poly{R: elements[i].R[:len(row)]}, row)))
		}
	}
	return sums
}

func relinOf(p api.Params, a api.Cipher, k api.Switch) api.Cipher {
	parts, row := partsOf(p, a), rowOf(p, a)
	come := switchedOf(a.C[2], k, row)
	return cipherOf(row, parts[0].plus(come[0]), parts[1].plus(come[1]))
}

// powerOf is 3 to the power of a step modulo n/2, modulo 2n.
func powerOf(n, step int) int {
	exponent := new(big.Int).Mod(big.NewInt(int64(step)), big.NewInt(int64(n/2)))
	return int(exponent.Exp(big.NewInt(3), exponent, big.NewInt(int64(2*n))).Int64())
}

func turnOf(p api.Params, a api.Cipher, step int, k api.Switch) api.Cipher {
	parts, row, power := partsOf(p, a), rowOf(p, a), powerOf(p.N, step)
	come := switchedOf(elementOf(parts[1].turned(power), row), k, row)
	return cipherOf(row, parts[0].turned(power).plus(come[0]), come[1])
}

func lowerOf(p api.Params, a api.Cipher) api.Cipher {
	parts, row := partsOf(p, a), rowOf(p, a)
	last := len(row) - 1
	for i, numbers := range parts {
		parts[i] = numbers.scaled(big.NewInt(1), word(row[last]))
	}
	return cipherOf(row[:last], parts...)
}
