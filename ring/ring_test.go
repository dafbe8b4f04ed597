package ring_test

import (
	"math"
	"math/big"
	"math/bits"
	"slices"
	"testing"

	"arras/api"
	"arras/ring"
)

const (
	most    = math.MaxUint64
	longest = 24
)

// mixer tells words that look like chance, the same ones each time.
type mixer struct{ state uint64 }

func (x *mixer) next() uint64 {
	x.state += 0x9e3779b97f4a7c15
	z := x.state
	z = (z ^ z>>30) * 0xbf58476d1ce4e5b9
	z = (z ^ z>>27) * 0x94d049bb133111eb
	return z ^ z>>31
}

// list is n numbers below q, some of them 0 and q - 1.
func (x *mixer) list(n int, q uint64) []uint64 {
	out := make([]uint64, n)
	for i := range out {
		switch x.next() % 8 {
		case 0:
			out[i] = 0
		case 1:
			out[i] = q - 1
		default:
			out[i] = x.next() % q
		}
	}
	return out
}

// element is one with a list for each of the primes.
func (x *mixer) element(n int, primes []uint64) api.Poly {
	var a api.Poly
	for _, q := range primes {
		a.R = append(a.R, x.list(n, q))
	}
	return a
}

// An independent reckoning: words that are multiplied and divided by math/bits, and by math/big.

func add(a, b, q uint64) uint64 { return (a + b) % q } // q is below 2^61

func mul(a, b, q uint64) uint64 {
	high, low := bits.Mul64(a, b)
	return bits.Rem64(high, low, q)
}

func isPrime(n uint64) bool { return new(big.Int).SetUint64(n).ProbablyPrime(0) }

func modulo(v *big.Int, q uint64) uint64 {
	return new(big.Int).Mod(v, new(big.Int).SetUint64(q)).Uint64()
}

// productOf is the product modulo X^n + 1: what goes beyond n comes back less than 0.
func productOf(a, b []uint64, q uint64) []uint64 {
	n := len(a)
	out := make([]uint64, n)
	for i, c := range a {
		if c == 0 {
			continue
		}
		for j, d := range b {
			if p := mul(c, d, q); i+j < n {
				out[i+j] = add(out[i+j], p, q)
			} else {
				out[i+j-n] = add(out[i+j-n], q-p, q)
			}
		}
	}
	return out
}

func sumOf(a, b []uint64, q uint64) []uint64 {
	out := make([]uint64, len(a))
	for i := range a {
		out[i] = add(a[i], b[i], q)
	}
	return out
}

func differenceOf(a, b []uint64, q uint64) []uint64 {
	out := make([]uint64, len(a))
	for i := range a {
		out[i] = add(a[i], q-b[i], q)
	}
	return out
}

// turnOf has X^k for X: each power is reckoned as a whole number of any size.
func turnOf(a []uint64, k int, q uint64) []uint64 {
	n := len(a)
	out := make([]uint64, n)
	for i, c := range a {
		exponent := new(big.Int).Mul(big.NewInt(int64(i)), big.NewInt(int64(k)))
		if at := int(modulo(exponent, 2*uint64(n))); at < n {
			out[at] = add(out[at], c, q)
		} else {
			out[at-n] = add(out[at-n], q-c, q)
		}
	}
	return out
}

// byPrime is an element of what is made of each prime's lists.
func byPrime(a, b api.Poly, primes []uint64, listOf func(a, b []uint64, q uint64) []uint64) api.Poly {
	var out api.Poly
	for i := range a.R {
		out.R = append(out.R, listOf(a.R[i], b.R[i], primes[i]))
	}
	return out
}

func turned(a api.Poly, k int, primes []uint64) api.Poly {
	return byPrime(a, a, primes, func(a, _ []uint64, q uint64) []uint64 { return turnOf(a, k, q) })
}

func sizes() []int {
	var list []int
	for n := 2; n <= api.MaxN; n *= 2 {
		list = append(list, n)
	}
	return list
}

// leastPrimes are the least ones that are 1 modulo 2n, rising.
func leastPrimes(n, count int) []uint64 {
	var list []uint64
	for q := 2*uint64(n) + 1; len(list) < count; q += 2 * uint64(n) {
		if isPrime(q) {
			list = append(list, q)
		}
	}
	return list
}

// greatestPrimes are the greatest ones that are 1 modulo 2n and below 2^61, falling.
func greatestPrimes(n, count int) []uint64 {
	var list []uint64
	for q := uint64(1<<61) - 2*uint64(n) + 1; len(list) < count; q -= 2 * uint64(n) {
		if isPrime(q) {
			list = append(list, q)
		}
	}
	return list
}

// beyondPrime is the least one that is 1 modulo 2n and not below 2^61.
func beyondPrime(n int) uint64 {
	q := uint64(1<<61) + 1
	for !isPrime(q) {
		q += 2 * uint64(n)
	}
	return q
}

// mixedPrimes are small ones and great ones by turns, in no order of size.
func mixedPrimes(n, count int) []uint64 {
	small, great := leastPrimes(n, count), greatestPrimes(n, count)
	list := make([]uint64, count)
	for i := range list {
		list[i] = great[i]
		if i%2 == 1 {
			list[i] = small[count-i-1]
		}
	}
	return list
}

func rows(n int) [][]uint64 {
	return [][]uint64{leastPrimes(n, 1), greatestPrimes(n, 1), mixedPrimes(n, 3), mixedPrimes(n, longest)}
}

func ringOf(t *testing.T, n int, primes []uint64) *ring.Ring {
	t.Helper()
	r, err := ring.New(n, primes)
	if err != api.OK || r == nil {
		t.Fatal("New", n, primes, err)
	}
	return r
}

// forRings hands on a ring of each size, with rows of one prime, of some and of as many as may be.
func forRings(t *testing.T, visit func(r *ring.Ring, n int, primes []uint64)) {
	t.Helper()
	for _, n := range sizes() {
		for _, primes := range rows(n) {
			visit(ringOf(t, n, primes), n, primes)
		}
	}
}

// levels are the lowest, the highest and the one between.
func levels(primes []uint64) []int {
	top := len(primes) - 1
	return slices.Compact([]int{0, top / 2, top})
}

// turns are odd numbers at all edges.
func turns(n int) []int {
	return []int{1, 3, -1, -3, 5, n - 1, n + 1, -n - 1, 2*n - 1, 2*n + 1, 2*n + 3, -2*n + 1, -2*n - 1, -6*n - 5, 1<<32 + 1, -1<<32 - 3, math.MaxInt, math.MaxInt - 2, math.MinInt + 1, math.MinInt + 3}
}

func all(n int, c uint64) []uint64 {
	return slices.Repeat([]uint64{c}, n)
}

// single is c X^k, modulo each prime; c is less than 0 where below says so.
func single(n, k int, c uint64, below bool, primes []uint64) api.Poly {
	var a api.Poly
	for _, q := range primes {
		list := make([]uint64, n)
		list[k] = c
		if below {
			list[k] = (q - c) % q
		}
		a.R = append(a.R, list)
	}
	return a
}

// full is the element whose coefficients are all the same, or all one less than their prime.
func full(n int, greatest bool, primes []uint64) api.Poly {
	var a api.Poly
	for _, q := range primes {
		c := uint64(0)
		if greatest {
			c = q - 1
		}
		a.R = append(a.R, all(n, c))
	}
	return a
}

// elements are noughts, the greatest numbers, single coefficients at both ends, and mixed numbers.
func elements(n int, primes []uint64) []api.Poly {
	x := &mixer{state: uint64(n) ^ primes[0]}
	return []api.Poly{
		full(n, false, primes), full(n, true, primes), single(n, 0, 1, false, primes), single(n, 1, 1, false, primes), single(n, n-1, 1, true, primes), x.element(n, primes),
	}
}

func same(a, b api.Poly) bool {
	return slices.EqualFunc(a.R, b.R, slices.Equal[[]uint64])
}

func right(t *testing.T, what string, got api.Poly, err api.Errno, want api.Poly) {
	t.Helper()
	if err != api.OK || !same(got, want) {
		t.Fatal(what, err, len(got.R), len(want.R), start(got), start(want))
	}
}

// start is what a message has room for.
func start(a api.Poly) [][]uint64 {
	var out [][]uint64
	for _, list := range a.R[:min(len(a.R), 3)] {
		out = append(out, list[:min(len(list), 8)])
	}
	return out
}

func refused(t *testing.T, what string, got api.Poly, err, want api.Errno) {
	t.Helper()
	if err != want || len(got.R) != 0 {
		t.Error(what, err, want, len(got.R))
	}
}

func TestLevel(t *testing.T) {
	forRings(t, func(r *ring.Ring, n int, primes []uint64) {
		for level := range primes {
			for _, a := range elements(n, primes[:level+1]) {
				if got, err := r.Level(a); got != level || err != api.OK {
					t.Fatal(n, len(primes), level, got, err)
				}
			}
		}
	})
}

func TestSums(t *testing.T) {
	forRings(t, func(r *ring.Ring, n int, primes []uint64) {
		for _, level := range levels(primes) {
			list := elements(n, primes[:level+1])
			zero := list[0]
			for _, a := range list {
				for _, b := range list {
					got, err := r.Add(a, b)
					right(t, "Add", got, err, byPrime(a, b, primes, sumOf))
					got, err = r.Sub(a, b)
					right(t, "Sub", got, err, byPrime(a, b, primes, differenceOf))
				}
				got, err := r.Neg(a)
				right(t, "Neg", got, err, byPrime(zero, a, primes, differenceOf))
				got, err = r.Add(got, a)
				right(t, "a and what it lacks", got, err, zero)
			}
		}
	})
}

func TestMul(t *testing.T) {
	forRings(t, func(r *ring.Ring, n int, primes []uint64) {
		for _, level := range levels(primes) {
			x := &mixer{state: uint64(level)}
			for _, a := range elements(n, primes[:level+1]) {
				b := x.element(n, primes[:level+1])
				if n > 64 {
					b = sparse(x, n, primes[:level+1])
				}
				got, err := r.Mul(b, a)
				right(t, "Mul", got, err, byPrime(b, a, primes, productOf))
				got, err = r.Mul(a, b)
				right(t, "Mul the other way round", got, err, byPrime(b, a, primes, productOf))
			}
		}
	})
}

// sparse has four coefficients that aren't 0, the highest among them: as many as the slow reckoning has the time for.
func sparse(x *mixer, n int, primes []uint64) api.Poly {
	a := full(n, false, primes)
	for i, q := range primes {
		for _, at := range []int{0, n - 1, int(x.next() % uint64(n)), int(x.next() % uint64(n))} {
			a.R[i][at] = 1 + x.next()%(q-1)
		}
	}
	return a
}

func TestMulOfTheLongest(t *testing.T) {
	n := api.MaxN
	primes := mixedPrimes(n, 2)
	x := &mixer{}
	a, b := x.element(n, primes), x.element(n, primes)
	got, err := ringOf(t, n, primes).Mul(a, b)
	right(t, "Mul", got, err, byPrime(a, b, primes, productOf))
}

func TestTurn(t *testing.T) {
	forRings(t, func(r *ring.Ring, n int, primes []uint64) {
		for _, level := range levels(primes)[:min(len(levels(primes)), 2)] {
			a := (&mixer{}).element(n, primes[:level+1])
			for _, k := range turns(n)[:turnsFor(n)] {
				got, err := r.Turn(a, k)
				right(t, "Turn", got, err, turned(a, k, primes))
			}
		}
	})
}

// turnsFor is how many turns the slow reckoning has the time for.
func turnsFor(n int) int {
	if n > 256 && n < api.MaxN {
		return 4
	}
	return len(turns(n))
}

func TestAllTurns(t *testing.T) {
	for _, n := range []int{2, 4, 8, 16} {
		primes := leastPrimes(n, 2)
		r := ringOf(t, n, primes)
		for _, a := range elements(n, primes) {
			for k := -4*n - 1; k <= 4*n+1; k += 2 {
				got, err := r.Turn(a, k)
				right(t, "Turn", got, err, turned(a, k, primes))
				again, err := r.Turn(a, k+2*n)
				right(t, "modulo 2n", again, err, got)
			}
		}
	}
}

func TestDrop(t *testing.T) {
	forRings(t, func(r *ring.Ring, n int, primes []uint64) {
		for _, level := range levels(primes) {
			a := (&mixer{}).element(n, primes[:level+1])
			for low := range level + 1 {
				got, err := r.Drop(a, low)
				right(t, "Drop", got, err, api.Poly{R: a.R[:low+1]})
			}
			for _, wrong := range []int{level + 1, level + 2, longest, -1, -2, math.MaxInt, math.MinInt} {
				got, err := r.Drop(a, wrong)
				refused(t, "Drop", got, err, api.ErrLevel)
			}
		}
	})
}

// numbers are n of them: both ends of int64, those about 0 and about the primes, then mixed ones.
func numbers(n int, primes []uint64) []int64 {
	list := []int64{math.MinInt64, math.MaxInt64, -1, 1, 0, math.MinInt64 + 1, 2, -2}
	for _, q := range primes {
		list = append(list, int64(q), -int64(q), int64(q-1), -int64(q-1), int64(q+1), -int64(q+1))
	}
	for x := (&mixer{}); len(list) < n; {
		list = append(list, int64(x.next()))
	}
	return list
}

func TestLift(t *testing.T) {
	forRings(t, func(r *ring.Ring, n int, primes []uint64) {
		list := numbers(n, primes)
		for _, level := range levels(primes) {
			for at := 0; at+n <= min(len(list), 64+n); at += n {
				v := list[at : at+n]
				got, err := r.Lift(v, level)
				right(t, "Lift", got, err, lifted(v, primes[:level+1]))
			}
		}
	})
}

func lifted(v []int64, primes []uint64) api.Poly {
	var a api.Poly
	for _, q := range primes {
		var list []uint64
		for _, number := range v {
			list = append(list, modulo(big.NewInt(number), q))
		}
		a.R = append(a.R, list)
	}
	return a
}

func TestTurnsGoOverSumsAndProducts(t *testing.T) {
	forRings(t, func(r *ring.Ring, n int, primes []uint64) {
		x := &mixer{}
		a, b := x.element(n, primes), x.element(n, primes)
		sum, _ := r.Add(a, b)
		product, _ := r.Mul(a, b)
		for _, k := range []int{1, 3, -1, n + 1, 2*n - 1, math.MaxInt, math.MinInt + 1} {
			turnA, _ := r.Turn(a, k)
			turnB, _ := r.Turn(b, k)
			want, _ := r.Add(turnA, turnB)
			got, err := r.Turn(sum, k)
			right(t, "the turn of a sum", got, err, want)
			want, _ = r.Mul(turnA, turnB)
			got, err = r.Turn(product, k)
			right(t, "the turn of a product", got, err, want)
		}
	})
}

func TestTwoTurnsAreOne(t *testing.T) {
	forRings(t, func(r *ring.Ring, n int, primes []uint64) {
		a := (&mixer{}).element(n, primes[:min(len(primes), 3)])
		for _, k := range turns(n) {
			for _, m := range turns(n) {
				first, _ := r.Turn(a, k)
				both, err := r.Turn(first, m)
				km := new(big.Int).Mul(big.NewInt(int64(k)), big.NewInt(int64(m)))
				once, _ := r.Turn(a, int(modulo(km, 2*uint64(n))))
				right(t, "two turns", both, err, once)
			}
		}
	})
}

func TestSumsAndProductsGoTogether(t *testing.T) {
	forRings(t, func(r *ring.Ring, n int, primes []uint64) {
		x := &mixer{state: 7}
		a, b, c := x.element(n, primes), x.element(n, primes), x.element(n, primes)
		sum, _ := r.Add(b, c)
		ab, _ := r.Mul(a, b)
		ac, _ := r.Mul(a, c)
		want, _ := r.Add(ab, ac)
		got, err := r.Mul(a, sum)
		right(t, "a (b + c)", got, err, want)
		got, err = r.Sub(sum, c)
		right(t, "b + c - c", got, err, b)
	})
}

func TestExamples(t *testing.T) {
	r := ringOf(t, 2, []uint64{5, 13})
	x, err := r.Lift([]int64{0, 1}, 1)
	right(t, "X", x, err, api.Poly{R: [][]uint64{{0, 1}, {0, 1}}})
	got, err := r.Mul(x, x)
	right(t, "X times X", got, err, api.Poly{R: [][]uint64{{4, 0}, {12, 0}}})
	got, err = r.Turn(x, 3)
	right(t, "X turned by 3", got, err, api.Poly{R: [][]uint64{{0, 4}, {0, 12}}})
}

func benchmark(b *testing.B, do func(r *ring.Ring, a api.Poly)) {
	primes := greatestPrimes(api.MaxN, 3)
	r, _ := ring.New(api.MaxN, primes)
	a := (&mixer{}).element(api.MaxN, primes)
	for b.Loop() {
		do(r, a)
	}
}

func BenchmarkAdd(b *testing.B) {
	benchmark(b, func(r *ring.Ring, a api.Poly) { r.Add(a, a) })
}

func BenchmarkMul(b *testing.B) {
	benchmark(b, func(r *ring.Ring, a api.Poly) { r.Mul(a, a) })
}

func BenchmarkTurn(b *testing.B) {
	benchmark(b, func(r *ring.Ring, a api.Poly) { r.Turn(a, 3) })
}
