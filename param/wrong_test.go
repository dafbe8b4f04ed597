package param_test

import (
	"math"
	"math/big"
	"slices"
	"testing"

	"arras/api"
	"arras/param"
)

// refused holds a level's calls against an error.
func refused(t *testing.T, p api.Params, level int, want api.Errno) {
	t.Helper()
	if modulus, err := param.Modulus(p, level); len(modulus) != 0 || err != want {
		t.Error("Modulus", name(p), level, modulus, err, want)
	}
	if step, rest, err := param.Step(p, level); len(step) != 0 || rest != 0 || err != want {
		t.Error("Step", name(p), level, step, rest, err, want)
	}
}

// mayNot holds parameters that may not be against all calls: ErrParam is ahead of ErrLevel.
func mayNot(t *testing.T, p api.Params) {
	t.Helper()
	if may(p) {
		t.Fatal("they may be:", name(p))
	}
	if err := param.Check(p); err != api.ErrParam {
		t.Error(name(p), err)
	}
	for _, level := range []int{math.MinInt, -1, 0, len(p.Q) - 1, len(p.Q), math.MaxInt} {
		refused(t, p, level, api.ErrParam)
	}
	if got := param.Top(p); got != len(p.Q)-1 {
		t.Error(name(p), got)
	}
}

// but is parameters with one thing otherwise.
func but(p api.Params, change func(p *api.Params)) api.Params {
	p.Q = slices.Clone(p.Q)
	change(&p)
	return p
}

// forAll are parameters that are right for all powers of two up to 8192, and for some numbers that are none, but for the number itself: all primes are 1 modulo 2^14, 3, 5 and 7.
func forAll(n int) api.Params {
	primes := rising(3, 105<<14, 2)
	return api.Params{N: n, T: primes[0], Q: primes[1:], Width: 3}
}

func TestWrongN(t *testing.T) {
	for _, n := range []int{8, 16, 32, 64, 128, 256, 1024, 2048, 4096} {
		if p := forAll(n); !may(p) || param.Check(p) != api.OK {
			t.Error("it may be", name(p))
		}
	}
	for _, n := range []int{512, 8192, 4, 2, 1, 0, 12, 24, 40, 56, 120, 14, 7, 9, 15, 3072, 3840, 4095, 4097, -1, -8, -16, -4096, 16384, 1 << 20, 1 << 31, 1 << 32, 1<<32 + 8, 1 << 61, 1 << 62, math.MaxInt, math.MinInt, math.MinInt + 8} {
		mayNot(t, forAll(n))
	}
}

// 512 has no row, however small the modulus is.
func TestNoRowOf512(t *testing.T) {
	primes := rising(3, 1024, 3)
	for _, q := range [][]uint64{primes[1:2], primes[1:], primes[2:]} {
		mayNot(t, api.Params{N: 512, T: primes[0], Q: q, Width: 1})
	}
}

func TestWrongT(t *testing.T) {
	for _, p := range []api.Params{example(), {N: 256, T: 7681, Q: []uint64{12289}, Width: 1}, {N: 4096, T: 40961, Q: falling(1<<50, 8192, 2), Width: 16}} {
		if !may(p) {
			t.Fatal(name(p))
		}
		step := 2 * uint64(p.N)
		half := rising(3, step/2, 20)
		half = slices.DeleteFunc(half, func(q uint64) bool { return q%step == 1 })
		above := rising(api.MaxT+1, step, 2)
		list := []uint64{0, 1, 2, 3, 5, step, step - 1, api.MaxT, api.MaxT + 1, api.MaxT - 1, 1 << 32, 1<<32 + p.T, 1<<63 + p.T, most, half[0], half[1], above[0], above[1], falling(primeEnd, step, 1)[0]}
		for n := step + 1; len(list) < 40; n += step {
			if !isPrime(n) {
				list = append(list, n)
			}
		}
		for _, plain := range list {
			mayNot(t, but(p, func(p *api.Params) { p.T = plain }))
		}
		for _, q := range p.Q {
			mayNot(t, but(p, func(p *api.Params) { p.T = q }))
		}
	}
}

// Numbers that look like primes: those that Fermat's test takes for primes, and squares and products of good primes.
func TestNoPrimes(t *testing.T) {
	for _, n := range []uint64{561, 1105, 1729, 2465, 6601, 41041, 75361, 512461, 17 * 97, 97 * 97, 193 * 257, 7681 * 12289} {
		mayNot(t, but(example(), func(p *api.Params) { p.T = n }))
		for place := range 2 {
			mayNot(t, but(example(), func(p *api.Params) { p.Q[place] = n }))
		}
	}
}

func TestTheGreatestT(t *testing.T) {
	for _, n := range sizes() {
		p := api.Params{N: n, T: falling(api.MaxT, 2*uint64(n), 1)[0], Q: rising(3, 2*uint64(n), 1), Width: 1}
		if p.T < api.MaxT-1<<24 || param.Check(p) != api.OK {
			t.Error(name(p))
		}
		mayNot(t, but(p, func(p *api.Params) { p.T = rising(api.MaxT, 2*uint64(n), 1)[0] }))
	}
}

func TestWrongWidth(t *testing.T) {
	for _, p := range []api.Params{example(), forAll(8)} {
		for _, width := range []int{0, api.MaxError + 1, -1, -2, -16, 17, 18, 32, 1 << 32, 1<<32 + 2, math.MinInt, math.MaxInt} {
			mayNot(t, but(p, func(p *api.Params) { p.Width = width }))
		}
	}
}

func TestWrongNumberOfPrimes(t *testing.T) {
	for _, n := range []int{8, 64, 256} {
		primes := rising(3, 2*uint64(n), 30)
		p := api.Params{N: n, T: primes[0], Q: primes[1:9], Width: 2}
		if len(p.Q) != api.MaxPrimes || param.Check(p) != api.OK {
			t.Error(name(p))
		}
		for _, q := range [][]uint64{nil, {}, primes[1:10], primes[1:11], primes[1:]} {
			mayNot(t, but(p, func(p *api.Params) { p.Q = q }))
		}
	}
}

// One prime that may not be, at each place of a row.
func TestWrongPrimes(t *testing.T) {
	for _, n := range []int{8, 16, 256} {
		step := 2 * uint64(n)
		primes := rising(3, step, 12)
		half := slices.DeleteFunc(rising(3, step/2, 30), func(q uint64) bool { return q%step == 1 })
		composite := step + 1
		for isPrime(composite) {
			composite += step
		}
		above := rising(primeEnd, step, 2)
		for count := 1; count <= api.MaxPrimes; count++ {
			p := api.Params{N: n, T: primes[0], Q: primes[1 : count+1], Width: 2}
			for place := range count {
				for _, q := range []uint64{0, 1, 2, 3, half[0], half[1], composite, p.T, primeEnd, primeEnd + 1, above[0], above[1], rising(1<<60, step, 1)[0], 1<<63 + p.Q[place], most} {
					mayNot(t, but(p, func(p *api.Params) { p.Q[place] = q }))
				}
				for other := range place {
					mayNot(t, but(p, func(p *api.Params) { p.Q[place] = p.Q[other] }))
				}
			}
		}
	}
}

// A prime just below 2^50 may be, and one above it not, though the row would allow it.
func TestTheGreatestPrime(t *testing.T) {
	for _, n := range []int{8, 16, 32, 64, 128, 256, 2048, 4096} {
		step := 2 * uint64(n)
		p := api.Params{N: n, T: rising(3, step, 1)[0], Q: falling(primeEnd, step, 1), Width: 2}
		if bits := productOf(p.Q).BitLen(); bits != 50 || param.Check(p) != api.OK {
			t.Error(name(p), bits)
		}
		right(t, p, 0)
		above := but(p, func(p *api.Params) { p.Q = rising(primeEnd, step, 1) })
		if productOf(above.Q).BitLen() > table()[n] {
			t.Error(name(above))
		}
		mayNot(t, above)
	}
}

// justOf is a row of so many primes, 1 modulo a step, whose product is the greatest such one below a power of two, or the least above it.
func justOf(bits int, step uint64, count int, isAbove bool) []uint64 {
	row := falling(1<<(bits/count), step, count-1)
	end := new(big.Int).Lsh(big.NewInt(1), uint(bits))
	last := end.Div(end, productOf(row)).Uint64()
	if isAbove {
		return append(row, rising(last+1, step, 1)[0])
	}
	return append(row, falling(last, step, 1)[0])
}

// Products of just as many bits as the row allows may be, those of one more not.
func TestTheRowsBits(t *testing.T) {
	for _, one := range []struct{ n, bits, count int }{{1024, 27, 1}, {2048, 54, 2}, {2048, 54, 3}, {4096, 109, 3}, {4096, 109, 4}, {4096, 109, 5}} {
		step := 2 * uint64(one.n)
		p := api.Params{N: one.n, T: rising(3, step, 1)[0], Width: 2, Q: justOf(one.bits, step, one.count, false)}
		if bits := productOf(p.Q).BitLen(); bits != one.bits || param.Check(p) != api.OK {
			t.Error(name(p), bits)
		}
		for level := range p.Q {
			right(t, p, level)
		}
		p.Q = justOf(one.bits, step, one.count, true)
		if bits := productOf(p.Q).BitLen(); bits != one.bits+1 {
			t.Error(name(p), bits)
		}
		mayNot(t, p)
	}
	for n := 8; n <= 256; n *= 2 {
		p := api.Params{N: n, T: rising(3, 2*uint64(n), 1)[0], Width: 2, Q: falling(primeEnd, 2*uint64(n), api.MaxPrimes)}
		if bits := productOf(p.Q).BitLen(); bits != 400 || param.Check(p) != api.OK {
			t.Error(name(p), bits)
		}
	}
}

func TestWrongLevels(t *testing.T) {
	for _, p := range good() {
		top := param.Top(p)
		right(t, p, 0)
		right(t, p, top)
		for _, level := range []int{-1, -2, top + 1, top + 2, -top - 1, 24, 1 << 32, math.MinInt, math.MaxInt} {
			if level < 0 || level > top {
				refused(t, p, level, api.ErrLevel)
			}
		}
	}
}

// wrong are parameters that may not be, all kinds of them.
func wrong() []api.Params {
	return []api.Params{
		{},
		{N: 8},
		{N: 8, T: 17, Width: 2},
		{N: 8, T: 17, Q: []uint64{97, 97}, Width: 2},
		{N: 8, T: 17, Q: []uint64{17}, Width: 2},
		{N: 512, T: 12289, Q: []uint64{13313}, Width: 2},
		{N: math.MinInt, T: most, Q: []uint64{most, 0, 1}, Width: math.MaxInt},
		{N: math.MaxInt, T: 0, Q: slices.Repeat([]uint64{0}, 100), Width: math.MinInt},
		{N: 8, T: 17, Q: []uint64{0}, Width: 2},
		{N: 0, T: 2, Q: []uint64{3}, Width: 1},
		{N: 1 << 62, T: 2, Q: []uint64{3}, Width: 1},
	}
}

func TestWrongAll(t *testing.T) {
	for _, p := range wrong() {
		mayNot(t, p)
	}
}

// A row of a million numbers is refused for its length, ahead of a look at each.
func TestLongRows(t *testing.T) {
	p := example()
	p.Q = slices.Repeat([]uint64{falling(primeEnd, 16, 1)[0]}, 1<<20)
	if err := param.Check(p); err != api.ErrParam || param.Top(p) != 1<<20-1 {
		t.Error(err)
	}
	refused(t, p, 0, api.ErrParam)
}
