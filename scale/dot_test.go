package scale_test

import (
	"math/big"
	"slices"
	"strconv"
	"testing"

	"arras/api"
	"arras/scale"
)

// longWay is the product modulo X^n + 1, number by number: what goes beyond n comes back less than 0.
func longWay(a, b []*big.Int) []*big.Int {
	n := len(a)
	out := make([]*big.Int, n)
	for i := range out {
		out[i] = new(big.Int)
	}
	for i, c := range a {
		for j, d := range b {
			product := new(big.Int).Mul(c, d)
			if i+j < n {
				out[i+j].Add(out[i+j], product)
			} else {
				out[i+j-n].Sub(out[i+j-n], product)
			}
		}
	}
	return out
}

// shortWay is the same, by one product of two great numbers in which all of a polynomial's stand far enough from one another.
func shortWay(a, b []*big.Int) []*big.Int {
	n := len(a)
	room := uint(64)
	for _, v := range slices.Concat(a, b) {
		room = max(room, uint(2*v.BitLen()+32))
	}
	all := scattered(new(big.Int).Mul(gathered(a, room), gathered(b, room)), 2*n, room)
	for i, v := range all[n:] {
		all[i].Sub(all[i], v)
	}
	return all[:n]
}

// gathered is the value of a polynomial of 2, 4, 8 .. numbers at a power of two.
func gathered(a []*big.Int, room uint) *big.Int {
	if len(a) == 1 {
		return a[0]
	}
	half := len(a) / 2
	v := new(big.Int).Lsh(gathered(a[half:], room), room*uint(half))
	return v.Add(v, gathered(a[:half], room))
}

// scattered is the polynomial that has this value, of numbers that are small beside the power.
func scattered(v *big.Int, count int, room uint) []*big.Int {
	if count == 1 {
		return []*big.Int{v}
	}
	width := room * uint(count/2)
	end := new(big.Int).Lsh(big.NewInt(1), width)
	low := new(big.Int).And(v, new(big.Int).Sub(end, big.NewInt(1)))
	if low.Bit(int(width-1)) == 1 {
		low.Sub(low, end)
	}
	high := new(big.Int).Sub(v, low)
	return append(scattered(low, count/2, room), scattered(high.Rsh(high, width), count/2, room)...)
}

func timesOf(a, b []*big.Int) []*big.Int {
	if len(a) <= 32 {
		return longWay(a, b)
	}
	return shortWay(a, b)
}

// dotOf is the scaled sum of the products of elements of one level.
func dotOf(p api.Params, a, b []api.Poly) api.Poly {
	row := p.Q[:len(a[0].R)]
	sums := make([]*big.Int, p.N)
	for i := range sums {
		sums[i] = new(big.Int)
	}
	for k := range a {
		for i, v := range timesOf(wholesOf(a[k], row), wholesOf(b[k], row)) {
			sums[i].Add(sums[i], v)
		}
	}
	return scaledOf(p, sums, row)
}

// scaledOf is the element of what is nearest to T / Q times numbers.
func scaledOf(p api.Params, sums []*big.Int, row []uint64) api.Poly {
	around := productOf(row)
	scaled := make([]*big.Int, len(sums))
	for i, v := range sums {
		scaled[i] = nearest(new(big.Int).Mul(word(p.T), v), around)
	}
	return residuesOf(scaled, row)
}

func rightDot(t *testing.T, p api.Params, s *scale.Scale, a, b []api.Poly) {
	t.Helper()
	got, err := s.Dot(a, b)
	right(t, "Dot "+name(p)+" at "+strconv.Itoa(len(a[0].R)-1)+" of "+strconv.Itoa(len(a)), got, err, dotOf(p, a, b))
}

func TestWaysOfReckoningAgree(t *testing.T) {
	x := &mixer{}
	for _, n := range []int{8, 64} {
		row := primesBelow(n, primeEnd, 3)
		a, b := wholesOf(x.element(n, row), row), wholesOf(x.element(n, row), row)
		if !slices.EqualFunc(longWay(a, b), shortWay(a, b), func(v, w *big.Int) bool { return v.Cmp(w) == 0 }) {
			t.Error(n)
		}
	}
}

// 18721 is the modulus: 17 times 550 is less than half of it, 17 times 551 more; so is, below 0, 17 times -550 and -551.
func TestDotByHand(t *testing.T) {
	p := example()
	s := scaleOf(t, p)
	one := []api.Poly{lifted(8, p.Q, 1)}
	for numbers, want := range map[[4]int64][4]int64{
		{550, 551, -550, -551}:     {0, 1, 0, -1},
		{9360, -9360, 1651, 1652}:  {8, -8, 1, 2},
		{-1651, -1652, 1101, 1102}: {-1, -2, 1, 1},
	} {
		dot, err := s.Dot([]api.Poly{lifted(8, p.Q, numbers[:]...)}, one)
		right(t, "Dot", dot, err, lifted(8, p.Q, want[:]...))
	}
	// X^7 times -200 X is 200; 200, 200 and 400 are each scaled to 0, but 17 times 800 to 1: what is rounded is the sum. 17 times 90000 is 81.7 times the modulus.
	a := []api.Poly{lifted(8, p.Q, 0, 0, 0, 0, 0, 0, 0, 1), lifted(8, p.Q, 200), lifted(8, p.Q, 300), lifted(8, p.Q, 1)}
	b := []api.Poly{lifted(8, p.Q, 0, -200), lifted(8, p.Q, 1), lifted(8, p.Q, 0, 300), lifted(8, p.Q, 400)}
	dot, err := s.Dot(a, b)
	right(t, "Dot", dot, err, lifted(8, p.Q, 1, 82))
}

func TestDot(t *testing.T) {
	t.Parallel()
	for _, p := range small() {
		s := scaleOf(t, p)
		x := &mixer{state: p.T}
		for level := range p.Q {
			for count := 1; count <= 4; count++ {
				row := p.Q[:level+1]
				rightDot(t, p, s, x.elements(count, p.N, row), x.elements(count, p.N, row))
			}
		}
	}
}

func TestDotOfGreatSizes(t *testing.T) {
	t.Parallel()
	for _, p := range great() {
		s := scaleOf(t, p)
		x := &mixer{state: p.T}
		for level := range p.Q {
			if count := 1 + level%4; level == 0 || level+3 > len(p.Q) {
				row := p.Q[:level+1]
				rightDot(t, p, s, x.elements(count, p.N, row), x.elements(count, p.N, row))
			}
		}
	}
}

// Numbers at all edges, by 1, by -1 and by each other.
func TestDotAtEdges(t *testing.T) {
	t.Parallel()
	for _, p := range small() {
		s := scaleOf(t, p)
		for level := range p.Q {
			row := p.Q[:level+1]
			for _, a := range chunks(p.N, edges(row), row) {
				for _, b := range []api.Poly{lifted(p.N, row, 1), lifted(p.N, row, -1), a} {
					rightDot(t, p, s, []api.Poly{a}, []api.Poly{b})
				}
			}
		}
	}
}

// Each number of a small modulus, by 1.
func TestDotOfAllNumbers(t *testing.T) {
	for _, p := range []api.Params{example(), paramsOf(8, 257, 193, 97), paramsOf(8, 97, 17), paramsOf(8, primesBelow(8, api.MaxT, 1)[0], 97, 17)} {
		s := scaleOf(t, p)
		end := endOf(p.Q).Int64()
		var numbers []*big.Int
		for v := -end; v <= end; v++ {
			numbers = append(numbers, big.NewInt(v))
		}
		for _, a := range chunks(p.N, numbers, p.Q) {
			rightDot(t, p, s, []api.Poly{a}, []api.Poly{lifted(p.N, p.Q, 1)})
		}
	}
}

// Numbers that T / Q times are just below and just above a half between two whole numbers, on both sides of 0.
func TestDotAtHalves(t *testing.T) {
	for _, p := range append(small(), great()...) {
		s := scaleOf(t, p)
		for level := range p.Q {
			row := p.Q[:level+1]
			around := productOf(row)
			var numbers []*big.Int
			for _, odd := range []uint64{1, 3, p.T/2 | 1, p.T - 2, p.T} {
				below := new(big.Int).Mul(word(odd), around)
				below.Div(below, word(2*p.T))
				above := new(big.Int).Add(below, big.NewInt(1))
				numbers = append(numbers, below, above, new(big.Int).Neg(below), new(big.Int).Neg(above))
			}
			numbers = slices.DeleteFunc(numbers, func(v *big.Int) bool { return !isCentered(v, row) })
			for _, a := range chunks(p.N, numbers, row) {
				rightDot(t, p, s, []api.Poly{a}, []api.Poly{lifted(p.N, row, 1)})
			}
		}
	}
}

// constant is an element whose numbers are all the same.
func constant(n int, v *big.Int, row []uint64) api.Poly {
	return residuesOf(slices.Repeat([]*big.Int{v}, n), row)
}

// greatest holds Dot of as many elements as may be, whose numbers are all as great as they can be, against what a pen says: of n numbers h each, and n numbers h each, the product has at place j j + 1 times h h, and n - 1 - j times h h less.
func greatest(t *testing.T, p api.Params, s *scale.Scale, level int) {
	t.Helper()
	row := p.Q[:level+1]
	end := endOf(row)
	below := new(big.Int).Neg(end)
	sums := make([]*big.Int, p.N)
	opposite := make([]*big.Int, p.N)
	for j := range sums {
		sums[j] = big.NewInt(int64(4 * (2*j + 2 - p.N)))
		sums[j].Mul(sums[j], end).Mul(sums[j], end)
		opposite[j] = new(big.Int).Neg(sums[j])
	}
	plus := slices.Repeat([]api.Poly{constant(p.N, end, row)}, 4)
	minus := slices.Repeat([]api.Poly{constant(p.N, below, row)}, 4)
	what := "greatest " + name(p) + " at " + strconv.Itoa(level)
	same, unlike := scaledOf(p, sums, row), scaledOf(p, opposite, row)
	for _, one := range []struct {
		a, b []api.Poly
		want api.Poly
	}{{plus, plus, same}, {minus, minus, same}, {plus, minus, unlike}, {minus, plus, unlike}} {
		got, err := s.Dot(one.a, one.b)
		right(t, what, got, err, one.want)
	}
}

func TestDotOfTheGreatestNumbers(t *testing.T) {
	t.Parallel()
	for _, p := range append(small(), great()...) {
		s := scaleOf(t, p)
		for level := range p.Q {
			greatest(t, p, s, level)
		}
	}
}

// Moduli of all sizes, just below and somewhat above powers of two, so that sums end just within, and just beyond, what any number of words or primes holds.
func TestDotOfTheGreatestNumbersOfAllSizes(t *testing.T) {
	t.Parallel()
	for bits := uint(7); bits < 50; bits++ {
		n := 8
		if bits > 16 {
			n = 64
		}
		for _, end := range []uint64{1 << bits, 33 << (bits - 5)} {
			list := primesBelow(n, end, 2)
			for _, row := range [][]uint64{list[:1], list, append(primesBelow(n, primeEnd, 2), list...)} {
				p := paramsOf(n, 12289, row...)
				s := scaleOf(t, p)
				for level := range p.Q {
					greatest(t, p, s, level)
				}
			}
		}
	}
}

// At one place, and another at a time, all products have the same sign.
func TestDotOfTheGreatestNumbersAtEachPlace(t *testing.T) {
	for _, p := range []api.Params{example(), paramsOf(16, 97, primesBelow(16, 1<<29, 2)...), paramsOf(8, 17, primesBelow(8, primeEnd, 8)...)} {
		s := scaleOf(t, p)
		for level := range p.Q {
			row := p.Q[:level+1]
			end := endOf(row)
			for place := range p.N {
				numbers := slices.Repeat([]*big.Int{end}, p.N)
				for i := place + 1; i < p.N; i++ {
					numbers[i] = new(big.Int).Neg(end)
				}
				a := slices.Repeat([]api.Poly{residuesOf(numbers, row)}, 4)
				rightDot(t, p, s, a, slices.Repeat([]api.Poly{constant(p.N, end, row)}, 4))
				rightDot(t, p, s, slices.Repeat([]api.Poly{constant(p.N, new(big.Int).Neg(end), row)}, 4), a)
			}
		}
	}
}

// Powers of X: each place comes from each two, and from beyond N with the other sign.
func TestDotOfPowers(t *testing.T) {
	p := example()
	s := scaleOf(t, p)
	for i := range p.N {
		for j := range p.N {
			a, b := make([]int64, p.N), make([]int64, p.N)
			a[i], b[j] = 700, -900
			want := make([]int64, p.N)
			if i+j < p.N {
				want[i+j] = -572 // 17 * 630000 / 18721 is 572.08
			} else {
				want[i+j-p.N] = 572
			}
			got, err := s.Dot([]api.Poly{lifted(p.N, p.Q, a...)}, []api.Poly{lifted(p.N, p.Q, b...)})
			right(t, "Dot of powers", got, err, lifted(p.N, p.Q, want...))
		}
	}
}

// Neither the order of the products nor that of their elements tells.
func TestDotInAnyOrder(t *testing.T) {
	t.Parallel()
	x := &mixer{state: 5}
	for _, p := range small() {
		s := scaleOf(t, p)
		a, b := x.elements(4, p.N, p.Q), x.elements(4, p.N, p.Q)
		want, err := s.Dot(a, b)
		again, errAgain := s.Dot(b, a)
		right(t, name(p), again, errAgain, want)
		slices.Reverse(a)
		slices.Reverse(b)
		again, errAgain = s.Dot(a, b)
		right(t, name(p), again, errAgain, want)
		slices.Reverse(b)
		other, errOther := s.Dot(a, b)
		right(t, name(p), other, errOther, dotOf(p, a, b))
		if err != api.OK {
			t.Error(err)
		}
	}
}

func benchmarked() []api.Params {
	list := great()
	return []api.Params{example(), list[1], list[5]}
}

func BenchmarkNew(b *testing.B) {
	for _, p := range benchmarked() {
		b.Run(strconv.Itoa(p.N), func(b *testing.B) {
			for b.Loop() {
				scale.New(p)
			}
		})
	}
}

func BenchmarkLower(b *testing.B) {
	for _, p := range benchmarked() {
		s, a := scaleOf(b, p), (&mixer{}).element(p.N, p.Q)
		b.Run(strconv.Itoa(p.N), func(b *testing.B) {
			for b.Loop() {
				s.Lower(a)
			}
		})
	}
}

func BenchmarkDot(b *testing.B) {
	for _, p := range benchmarked() {
		s, a := scaleOf(b, p), (&mixer{}).elements(2, p.N, p.Q)
		b.Run(strconv.Itoa(p.N), func(b *testing.B) {
			for b.Loop() {
				s.Dot(a, a)
			}
		})
	}
}
