package scale_test

import (
	"math"
	"math/big"
	"slices"
	"strconv"
	"testing"

	"arras/api"
	"arras/ring"
	"arras/scale"
)

const (
	most     = math.MaxUint64
	primeEnd = 1 << 50
)

// mixer tells words that look like chance, the same ones each time.
type mixer struct{ state uint64 }

func (x *mixer) next() uint64 {
	x.state += 0x9e3779b97f4a7c15
	z := x.state
	z = (z ^ z>>30) * 0xbf58476d1ce4e5b9
	z = (z ^ z>>27) * 0x94d049bb133111eb
	return z ^ z>>31
}

// element is n residues for each of the primes, some of them 0 and the greatest.
func (x *mixer) element(n int, row []uint64) api.Poly {
	var a api.Poly
	for _, q := range row {
		list := make([]uint64, n)
		for i := range list {
			switch x.next() % 8 {
			case 0:
			case 1:
				list[i] = q - 1
			default:
				list[i] = x.next() % q
			}
		}
		a.R = append(a.R, list)
	}
	return a
}

// elements are so many.
func (x *mixer) elements(count, n int, row []uint64) []api.Poly {
	var list []api.Poly
	for range count {
		list = append(list, x.element(n, row))
	}
	return list
}

// An independent reckoning, by math/big.

func word(w uint64) *big.Int { return new(big.Int).SetUint64(w) }

func isPrime(n uint64) bool { return word(n).ProbablyPrime(0) }

func productOf(row []uint64) *big.Int {
	product := big.NewInt(1)
	for _, q := range row {
		product.Mul(product, word(q))
	}
	return product
}

// endOf is the greatest centered number.
func endOf(row []uint64) *big.Int { return new(big.Int).Rsh(productOf(row), 1) }

// isCentered asks whether a number is (Q - 1)/2 in size, or less.
func isCentered(v *big.Int, row []uint64) bool { return v.CmpAbs(endOf(row)) <= 0 }

// center is the number least in size that is v modulo an odd number.
func center(v, around *big.Int) *big.Int {
	rest := new(big.Int).Mod(v, around)
	if new(big.Int).Lsh(rest, 1).Cmp(around) > 0 {
		rest.Sub(rest, around)
	}
	return rest
}

// nearest is v by a number above 0: half of it is added, then the quotient is rounded down, so that halves go up.
func nearest(v, by *big.Int) *big.Int {
	twice := new(big.Int).Lsh(v, 1)
	twice.Add(twice, by)
	// by is above 0, so Euclid's quotient is the one rounded down.
	return twice.Div(twice, new(big.Int).Lsh(by, 1))
}

func residuesOf(numbers []*big.Int, row []uint64) api.Poly {
	var a api.Poly
	for _, q := range row {
		list := make([]uint64, len(numbers))
		for i, v := range numbers {
			list[i] = new(big.Int).Mod(v, word(q)).Uint64()
		}
		a.R = append(a.R, list)
	}
	return a
}

// wholesOf are an element's numbers: each residue times what is 1 modulo its prime and 0 modulo all others.
func wholesOf(a api.Poly, row []uint64) []*big.Int {
	around := productOf(row)
	var ones []*big.Int
	for _, q := range row {
		others := new(big.Int).Div(around, word(q))
		ones = append(ones, others.Mul(others, new(big.Int).ModInverse(others, word(q))))
	}
	var numbers []*big.Int
	for i := range a.R[0] {
		sum := new(big.Int)
		for place := range row {
			sum.Add(sum, new(big.Int).Mul(word(a.R[place][i]), ones[place]))
		}
		numbers = append(numbers, center(sum, around))
	}
	return numbers
}

// loweredOf is an element a level lower.
func loweredOf(a api.Poly, row []uint64) api.Poly {
	beneath := len(row) - 1
	numbers := wholesOf(a, row)
	for i, v := range numbers {
		numbers[i] = nearest(v, word(row[beneath]))
	}
	return residuesOf(numbers, row[:beneath])
}

// primesBelow are the greatest ones below an end that are 1 modulo 2n, falling.
func primesBelow(n int, end uint64, count int) []uint64 {
	var list []uint64
	step := uint64(2 * n)
	for q := (end-2)/step*step + 1; len(list) < count; q -= step {
		if isPrime(q) {
			list = append(list, q)
		}
	}
	return list
}

// leastPrimes are the least ones that are 1 modulo 2n.
func leastPrimes(n, count int) []uint64 {
	var list []uint64
	for q := uint64(2*n + 1); len(list) < count; q += uint64(2 * n) {
		if isPrime(q) {
			list = append(list, q)
		}
	}
	return list
}

// mixedPrimes are great ones and small ones by turns.
func mixedPrimes(n, count int) []uint64 {
	small, great := leastPrimes(n, count+1)[1:], primesBelow(n, primeEnd, count)
	list := make([]uint64, count)
	for i := range list {
		list[i] = great[i]
		if i%2 == 1 {
			list[i] = small[count-1-i]
		}
	}
	return list
}

func paramsOf(n int, plain uint64, row ...uint64) api.Params {
	return api.Params{N: n, T: plain, Q: row, Width: 2}
}

func example() api.Params { return paramsOf(8, 17, 97, 193) }

// small are parameters of few coefficients: the least T and the greatest, one prime up to as many as may be, the least, the greatest, and both.
func small() []api.Params {
	list := []api.Params{example(), paramsOf(8, 17, 193, 97), paramsOf(8, 97, 17)}
	for n := 8; n <= 64; n *= 2 {
		for _, plain := range []uint64{leastPrimes(n, 1)[0], primesBelow(n, api.MaxT, 1)[0]} {
			mixed := mixedPrimes(n, api.MaxPrimes)
			backward := slices.Clone(mixed)
			slices.Reverse(backward)
			for _, row := range [][]uint64{leastPrimes(n, 2)[1:], leastPrimes(n, 4)[1:], leastPrimes(n, 9)[1:], primesBelow(n, primeEnd, 1), primesBelow(n, primeEnd, api.MaxPrimes), mixed, backward} {
				list = append(list, paramsOf(n, plain, row...))
			}
		}
	}
	return list
}

// great are parameters of many coefficients, with as many bits as the table's row allows, and with as many primes.
func great() []api.Params {
	return []api.Params{
		paramsOf(128, 257, mixedPrimes(128, 5)...),
		paramsOf(256, primesBelow(256, api.MaxT, 1)[0], primesBelow(256, primeEnd, api.MaxPrimes)...),
		paramsOf(1024, 12289, primesBelow(1024, 1<<27, 1)...),
		paramsOf(2048, 12289, primesBelow(2048, 1<<27, 2)...),
		paramsOf(2048, primesBelow(2048, api.MaxT, 1)[0], primesBelow(2048, primeEnd, 1)...),
		paramsOf(api.MaxN, primesBelow(api.MaxN, api.MaxT, 1)[0], append(primesBelow(api.MaxN, 1<<36, 2), primesBelow(api.MaxN, 1<<37, 1)...)...),
		paramsOf(api.MaxN, 40961, leastPrimes(api.MaxN, 6)[1:]...),
	}
}

func name(p api.Params) string {
	text := "N " + strconv.Itoa(p.N) + " T " + strconv.FormatUint(p.T, 10) + " Q"
	for _, q := range p.Q {
		text += " " + strconv.FormatUint(q, 10)
	}
	return text
}

func scaleOf(t testing.TB, p api.Params) *scale.Scale {
	t.Helper()
	s, err := scale.New(p)
	if err != api.OK || s == nil {
		t.Fatal(name(p), err)
	}
	return s
}

func right(t *testing.T, what string, got api.Poly, err api.Errno, want api.Poly) {
	t.Helper()
	if err != api.OK || !slices.EqualFunc(got.R, want.R, slices.Equal[[]uint64]) {
		t.Error(what, err, len(got.R), len(want.R))
	}
}

// small numbers as an element.
func lifted(n int, row []uint64, numbers ...int64) api.Poly {
	list := make([]*big.Int, n)
	for i := range list {
		list[i] = new(big.Int)
		if i < len(numbers) {
			list[i].SetInt64(numbers[i])
		}
	}
	return residuesOf(list, row)
}

// edges are centered numbers of a row: at both ends, about 0 and words' ends, and at halves of the last prime, about both ends and in between.
func edges(row []uint64) []*big.Int {
	end, last := endOf(row), word(row[len(row)-1])
	list := []*big.Int{new(big.Int), big.NewInt(1), end, new(big.Int).Sub(end, big.NewInt(1)), new(big.Int).Rsh(end, 1)}
	for _, shift := range []uint{31, 32, 63, 64, 128, 192, 320} {
		power := new(big.Int).Lsh(big.NewInt(1), shift)
		list = append(list, power, new(big.Int).Sub(power, big.NewInt(1)))
	}
	half := new(big.Int).Rsh(last, 1)
	greatest := new(big.Int).Div(end, last)
	for _, count := range []*big.Int{new(big.Int), big.NewInt(1), big.NewInt(2), new(big.Int).Rsh(greatest, 1), new(big.Int).Sub(greatest, big.NewInt(1)), greatest} {
		whole := new(big.Int).Mul(count, last)
		below := new(big.Int).Add(whole, half)
		list = append(list, whole, below, new(big.Int).Add(below, big.NewInt(1)), new(big.Int).Sub(whole, half), new(big.Int).Sub(whole, big.NewInt(1)))
	}
	for _, v := range slices.Clone(list) {
		list = append(list, new(big.Int).Neg(v))
	}
	return slices.DeleteFunc(list, func(v *big.Int) bool { return !isCentered(v, row) })
}

// chunks are elements that have these numbers, one behind the other, then noughts.
func chunks(n int, numbers []*big.Int, row []uint64) []api.Poly {
	var list []api.Poly
	for len(numbers) > 0 {
		chunk := make([]*big.Int, n)
		for i := range chunk {
			chunk[i] = new(big.Int)
		}
		numbers = numbers[copy(chunk, numbers):]
		list = append(list, residuesOf(chunk, row))
	}
	return list
}

func TestExamples(t *testing.T) {
	p := example()
	s := scaleOf(t, p)
	low, err := s.Lower(lifted(8, p.Q, 100))
	right(t, "Lower", low, err, lifted(8, p.Q[:1], 1))
	thousand := []api.Poly{lifted(8, p.Q, 1000)}
	dot, err := s.Dot(thousand, thousand)
	right(t, "Dot", dot, err, lifted(8, p.Q, 908))
}

// 193 is 2 times 96 and 1: 96 is nearer to 0, 97 nearer to 193; at the ends stand 48 times 193 and 96 more, on both sides.
func TestLowerByHand(t *testing.T) {
	p := example()
	s := scaleOf(t, p)
	for numbers, want := range map[[4]int64][4]int64{
		{96, 97, -96, -97}:         {0, 1, 0, -1},
		{193, 289, 290, 0}:         {1, 1, 2, 0},
		{-193, -289, -290, 1}:      {-1, -1, -2, 0},
		{9360, -9360, 9359, -9359}: {48, -48, 48, -48},
		{9264, 9168, 9167, 9071}:   {48, 48, 47, 47},
		{-9264, -9168, -9167, 5}:   {-48, -48, -47, 0},
	} {
		low, err := s.Lower(lifted(8, p.Q, numbers[:]...))
		right(t, "Lower", low, err, lifted(8, p.Q[:1], want[:]...))
	}
}

func rightLower(t *testing.T, p api.Params, s *scale.Scale, a api.Poly) api.Poly {
	t.Helper()
	low, err := s.Lower(a)
	right(t, "Lower "+name(p)+" at "+strconv.Itoa(len(a.R)-1), low, err, loweredOf(a, p.Q[:len(a.R)]))
	return low
}

func TestLower(t *testing.T) {
	for _, p := range append(small(), great()...) {
		s := scaleOf(t, p)
		x := &mixer{state: p.T}
		for level := 1; level < len(p.Q); level++ {
			row := p.Q[:level+1]
			for _, a := range chunks(p.N, edges(row), row) {
				rightLower(t, p, s, a)
			}
			rightLower(t, p, s, x.element(p.N, row))
		}
	}
}

func TestLowerOfAllNumbers(t *testing.T) {
	for _, p := range []api.Params{example(), paramsOf(8, 17, 193, 97), paramsOf(16, 257, 97, 193)} {
		s := scaleOf(t, p)
		var numbers []*big.Int
		end := endOf(p.Q).Int64()
		for v := -end; v <= end; v++ {
			numbers = append(numbers, big.NewInt(v))
		}
		for _, a := range chunks(p.N, numbers, p.Q) {
			rightLower(t, p, s, a)
		}
	}
}

// What is lowered is lowered again, down to level 0.
func TestLowerAgain(t *testing.T) {
	for _, p := range append(small(), great()...) {
		s := scaleOf(t, p)
		a := (&mixer{state: 2}).element(p.N, p.Q)
		for range len(p.Q) - 1 {
			a = rightLower(t, p, s, a)
		}
		if level, err := s.Ring().Level(a); level != 0 || err != api.OK {
			t.Error(name(p), level, err)
		}
	}
}

// P10.2. The difference is taken modulo the level's modulus.
func TestLowerDiffersByHalfAtMost(t *testing.T) {
	for _, p := range append(small(), great()...) {
		s := scaleOf(t, p)
		x := &mixer{state: p.T + 1}
		for level := 1; level < len(p.Q); level++ {
			row := p.Q[:level+1]
			around, last := productOf(row), word(p.Q[level])
			for _, a := range append(chunks(p.N, edges(row), row), x.elements(2, p.N, row)...) {
				low, err := s.Lower(a)
				if err != api.OK || len(low.R) != level {
					t.Fatal(name(p), level, err)
				}
				numbers := wholesOf(a, row)
				for i, v := range wholesOf(low, p.Q[:level]) {
					far := center(new(big.Int).Sub(new(big.Int).Mul(v, last), numbers[i]), around)
					if far.Lsh(far, 1).CmpAbs(last) > 0 {
						t.Error(name(p), level, i, numbers[i], v)
					}
				}
			}
		}
	}
}

// The ring is that of N and all primes: its elements have these levels, this size and these bounds, in this order.
func TestRingsElements(t *testing.T) {
	for _, p := range append(small(), great()...) {
		r := scaleOf(t, p).Ring()
		if r == nil {
			t.Fatal(name(p))
		}
		for level, q := range p.Q {
			a := residuesOf(slices.Repeat([]*big.Int{big.NewInt(-1)}, p.N), p.Q[:level+1])
			if got, err := r.Level(a); got != level || err != api.OK {
				t.Error(name(p), got, err)
			}
			a.R[level][p.N-1] = q
			noElement(t, r, a)
			a.R[level] = make([]uint64, p.N-1)
			noElement(t, r, a)
			a.R[level] = make([]uint64, p.N+1)
			noElement(t, r, a)
		}
		noElement(t, r, api.Poly{})
		noElement(t, r, lifted(p.N, append(slices.Clone(p.Q), 3)))
		if _, err := r.Lift(make([]int64, p.N), len(p.Q)); err != api.ErrLevel {
			t.Error(name(p), err)
		}
	}
}

func noElement(t *testing.T, r *ring.Ring, a api.Poly) {
	t.Helper()
	if level, err := r.Level(a); level != 0 || err != api.ErrForm {
		t.Error(level, err)
	}
}

// Its products are those modulo X^N + 1 and each prime.
func TestRingsProducts(t *testing.T) {
	x := &mixer{state: 3}
	for _, p := range append(small(), great()...) {
		s := scaleOf(t, p)
		for level := range p.Q {
			row := p.Q[:level+1]
			a, b := x.element(p.N, row), x.element(p.N, row)
			got, err := s.Ring().Mul(a, b)
			right(t, "Mul "+name(p), got, err, residuesOf(timesOf(wholesOf(a, row), wholesOf(b, row)), row))
		}
	}
}
