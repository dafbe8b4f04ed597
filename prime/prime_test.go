package prime_test

import (
	"math"
	"math/big"
	"slices"
	"testing"

	"arras/api"
	"arras/prime"
)

const (
	most     = math.MaxUint64
	mostStep = 2 * api.MaxN
)

// mixer tells words that look like chance, the same ones each time.
type mixer struct{ state uint64 }

func (x *mixer) next() uint64 {
	x.state += 0x9e3779b97f4a7c15
	z := x.state
	z = (z ^ z>>30) * 0xbf58476d1ce4e5b9
	z = (z ^ z>>27) * 0x94d049bb133111eb
	return z ^ z>>31
}

// any is a word of any number of bits.
func (x *mixer) any() uint64 {
	return x.next() >> (x.next() % 65)
}

func number(w uint64) *big.Int { return new(big.Int).SetUint64(w) }

// isPrime is an independent reckoning: that of math/big is without fault below 2^64.
func isPrime(n uint64) bool { return number(n).ProbablyPrime(0) }

func power(a, n, q uint64) uint64 {
	return new(big.Int).Exp(number(a), number(n), number(q)).Uint64()
}

// steps are all that may be.
func steps() []uint64 {
	var list []uint64
	for step := uint64(2); step <= mostStep; step *= 2 {
		list = append(list, step)
	}
	return list
}

// noSteps are some that may not be.
func noSteps() []uint64 {
	return []uint64{0, 1, 3, 5, 6, 7, 12, 24, mostStep - 1, mostStep + 1, mostStep + 2, 2 * mostStep, 1 << 31, 1 << 32, 1 << 61, 1 << 63, most - 1, most}
}

func TestIsOfSmallOnes(t *testing.T) {
	const end = 1 << 20
	crossed := make([]bool, end)
	for n := 2; n < end; n++ {
		for k := 2 * n; !crossed[n] && k < end; k += n {
			crossed[k] = true
		}
	}
	for n := range end {
		if got := prime.Is(uint64(n)); got != (n >= 2 && !crossed[n]) {
			t.Fatal(n, got)
		}
	}
}

func TestIsOfMany(t *testing.T) {
	x := &mixer{}
	for range 20000 {
		for _, n := range []uint64{x.any(), x.any() | 1, x.next() | 1} {
			if got := prime.Is(n); got != isPrime(n) {
				t.Fatal(n, got)
			}
		}
	}
}

func TestIsNearPowersOfTwo(t *testing.T) {
	for size := range 65 {
		middle := uint64(1) << size // 0 for 2^64: below it are the greatest words
		for n := middle - 300; n != middle+300; n++ {
			if got := prime.Is(n); got != isPrime(n) {
				t.Fatal(n, got)
			}
		}
	}
}

// The least numbers that pass for primes by the first so many bases, and others that pass by many.
func TestIsOfWhatLooksLikeAPrime(t *testing.T) {
	for _, n := range []uint64{
		561, 1105, 1729, 2465, 6601, 8911, 2047, 1373653, 25326001, 3215031751, 2152302898747, 3474749660383,
		341550071728321, 3825123056546413051, 4759123141, 1122004669633, 18446744073709551615, 18446744065119617025,
	} {
		if prime.Is(n) {
			t.Error(n)
		}
	}
}

func TestIsOfProducts(t *testing.T) {
	x := &mixer{}
	var primes []uint64
	for len(primes) < 60 {
		if n := x.next()>>32 | 1; isPrime(n) {
			primes = append(primes, n)
		}
	}
	primes = append(primes, 41, 43, 65537, 4294967291, 4294967279)
	for _, p := range primes {
		if !prime.Is(p) {
			t.Error(p)
		}
		for _, q := range primes {
			if prime.Is(p * q) {
				t.Error(p, q)
			}
		}
	}
	// Both factors of these share much of what they are less 1, which deceives weaker tests most.
	for p := uint64(3); p < 60000; p += 2 {
		for _, k := range []uint64{1, 2, 3, 4, 6, 10} {
			if n := p * (k*(p-1) + 1); prime.Is(n) != isPrime(n) {
				t.Fatal(n)
			}
		}
	}
}

// greatest are the primes that Search may tell, falling, at most as many as it may be asked for.
func greatest(size int, step uint64) []uint64 {
	var list []uint64
	for n := uint64(1)<<size - 1; n > 1<<(size-1) && len(list) < 16; {
		if n%step != 1 {
			n-- // by ones only up to the first one that is 1 modulo the step
			continue
		}
		if isPrime(n) {
			list = append(list, n)
		}
		if n < step {
			break
		}
		n -= step
	}
	return list
}

func TestSearch(t *testing.T) {
	for size := 4; size <= 61; size++ {
		for _, step := range steps() {
			want := greatest(size, step)
			for count := 1; count <= 16; count++ {
				if size > 20 && count%5 != 1 {
					continue
				}
				got, err := prime.Search(size, step, count)
				if count > len(want) {
					if err != api.ErrFit || len(got) != 0 {
						t.Fatal("so many aren't there", size, step, count, got, err)
					}
				} else if err != api.OK || !slices.Equal(got, want[:count]) {
					t.Fatal(size, step, count, got, err, want)
				}
			}
		}
	}
}

func TestSearchAtEdges(t *testing.T) {
	cases := []struct {
		size  int
		step  uint64
		count int
		want  []uint64
		err   api.Errno
	}{
		{4, 2, 1, []uint64{13}, api.OK},
		{4, 2, 2, []uint64{13, 11}, api.OK},
		{4, 2, 3, nil, api.ErrFit}, // 7 isn't above 8
		{4, 4, 1, []uint64{13}, api.OK},
		{4, 8, 1, nil, api.ErrFit},
		{4, 16, 1, nil, api.ErrFit},
		{4, mostStep, 1, nil, api.ErrFit},
		{5, 16, 1, []uint64{17}, api.OK}, // the least number above 16
		{5, 16, 2, nil, api.ErrFit},
		{13, mostStep, 1, nil, api.ErrFit},
		{14, mostStep, 1, nil, api.ErrFit},
		{16, mostStep, 1, []uint64{40961}, api.OK},
		{16, mostStep, 2, nil, api.ErrFit},
		{17, mostStep, 2, []uint64{114689, 65537}, api.OK},
		{17, mostStep, 3, nil, api.ErrFit}, // 40961 isn't above 65536
		{61, 2, 1, []uint64{1<<61 - 1}, api.OK},
	}
	for _, c := range cases {
		if got, err := prime.Search(c.size, c.step, c.count); err != c.err || !slices.Equal(got, c.want) {
			t.Error(c, got, err)
		}
	}
}

func TestSearchOfWhatMayNotBe(t *testing.T) {
	refused := func(size int, step uint64, count int) {
		if got, err := prime.Search(size, step, count); err != api.ErrArg || len(got) != 0 {
			t.Error(size, step, count, got, err)
		}
	}
	wrongSizes := []int{math.MinInt, -61, -1, 0, 1, 2, 3, 62, 63, 64, 65, 68, 1 << 32, math.MaxInt}
	wrongCounts := []int{math.MinInt, -16, -1, 0, 17, 18, 1 << 32, math.MaxInt}
	for _, size := range wrongSizes {
		refused(size, 2, 1)
		refused(size, mostStep, 16)
	}
	for _, step := range noSteps() {
		refused(4, step, 1)
		refused(30, step, 3)
		refused(61, step, 16)
	}
	for _, count := range wrongCounts {
		refused(30, 16, count)
		refused(4, mostStep, count) // ErrFit would apply as well
	}
	for _, size := range wrongSizes {
		for _, step := range noSteps() {
			for _, count := range wrongCounts {
				refused(size, step, count)
			}
		}
	}
}

func TestSearchTellsPrimesWithRoots(t *testing.T) {
	for size := 4; size <= 61; size++ {
		for _, step := range steps() {
			list, err := prime.Search(size, step, 1)
			if err == api.ErrFit {
				continue
			}
			q := list[0]
			if !isPrime(q) || q%step != 1 || q>>(size-1) != 1 {
				t.Fatal(size, step, q)
			}
			checkRoot(t, q, step)
		}
	}
	list, err := prime.Search(50, mostStep, 16)
	if err != api.OK || len(list) != 16 {
		t.Fatal(list, err)
	}
	for _, q := range list {
		checkRoot(t, q, mostStep)
	}
}

// checkRoot holds Root against the numbers' laws: as many powers as asked, and no other root is less.
func checkRoot(t *testing.T, q, n uint64) {
	t.Helper()
	w, err := prime.Root(q, n)
	if err != api.OK || w >= q || power(w, n, q) != 1 || power(w, n/2, q) == 1 {
		t.Fatal(q, n, w, err)
	}
	modulus, root := number(q), number(w)
	square := new(big.Int).Mul(root, root)
	other := number(w)
	for range n / 2 {
		other.Mul(other, square).Mod(other, modulus)
		if other.Cmp(root) < 0 {
			t.Fatal("a lesser root", q, n, w, other)
		}
	}
}

// leastRoot goes through all numbers: 0, if none does.
func leastRoot(q, n uint64) uint64 {
	for w := uint64(1); w < q; w++ {
		unlike, p := uint64(1), w
		for ; p != 1 && unlike <= n; unlike++ {
			p = p * w % q
		}
		if p == 1 && unlike == n {
			return w
		}
	}
	return 0
}

func TestRootOfSmallOnes(t *testing.T) {
	for q := range uint64(700) {
		for n := range uint64(70) {
			mayBe := n >= 2 && n&(n-1) == 0 && isPrime(q) && q%n == 1
			var want uint64
			wantErr := api.ErrArg
			if mayBe {
				want, wantErr = leastRoot(q, n), api.OK
			}
			if got, err := prime.Root(q, n); got != want || err != wantErr {
				t.Fatal(q, n, got, err, want)
			}
		}
	}
}

func TestRootAtEdges(t *testing.T) {
	for _, n := range steps() {
		if got, err := prime.Root(65537, n); got != leastRoot(65537, n) || err != api.OK {
			t.Error(n, got, err)
		}
		checkRoot(t, 40961, n)
		checkRoot(t, 998244353, n)
		checkRoot(t, 4179340454199820289, n)  // of 62 bits
		checkRoot(t, 18446744069414584321, n) // of 64 bits
	}
	for _, q := range []uint64{3, 5, 7, 65537, 1<<61 - 1, most - 58} {
		if got, err := prime.Root(q, 2); got != q-1 || err != api.OK {
			t.Error(q, got, err)
		}
	}
	checkRoot(t, most-58, 4)
}

// The least number that is no square modulo these is the 4th prime, the 5th one, and so on: many are asked in vain.
func TestRootWhereSmallOnesAreSquares(t *testing.T) {
	for _, q := range []uint64{71, 311, 479, 1559, 5711, 10559, 18191, 31391, 422231, 701399, 366791, 3818929, 9257329} {
		for n := uint64(2); q%n == 1; n *= 2 {
			checkRoot(t, q, n)
		}
	}
}

func TestRootOfWhatMayNotBe(t *testing.T) {
	refused := func(q, n uint64) {
		if got, err := prime.Root(q, n); got != 0 || err != api.ErrArg {
			t.Error(q, n, got, err)
		}
	}
	for _, n := range noSteps() {
		for _, q := range []uint64{0, 1, 2, 3, 7, 13, 17, 97, 65537, 786433, 18446744069414584321, most} {
			refused(q, n)
		}
	}
	for _, n := range steps() {
		for _, q := range []uint64{0, 1, 2, n, n - 1, n * n, mostStep + 1, most} {
			if !isPrime(q) || q%n != 1 {
				refused(q, n)
			}
		}
	}
	for _, pair := range [][2]uint64{{2, 2}, {9, 2}, {9, 8}, {25, 8}, {561, 16}, {1729, 64}, {7, 4}, {13, 8}, {17, 32}, {40961, mostStep + 1}, {12289, mostStep}, {1<<61 - 1, 4}, {3825123056546413051, 2}} {
		refused(pair[0], pair[1])
	}
	refused(65537*65537, mostStep) // 1 modulo the step, no prime
}

func TestAnswersAreNewMemory(t *testing.T) {
	first, _ := prime.Search(30, 64, 5)
	want := slices.Clone(first)
	clear(first[:cap(first)])
	if again, err := prime.Search(30, 64, 5); err != api.OK || !slices.Equal(again, want) {
		t.Error(again, want)
	}
}

func TestExamples(t *testing.T) {
	if got, err := prime.Search(8, 16, 2); err != api.OK || !slices.Equal(got, []uint64{241, 193}) {
		t.Error(got, err)
	}
	if got, err := prime.Root(17, 8); got != 2 || err != api.OK {
		t.Error(got, err)
	}
	if got, err := prime.Root(97, 32); got != 19 || err != api.OK {
		t.Error(got, err)
	}
}

func BenchmarkIs(b *testing.B) {
	for b.Loop() {
		prime.Is(most - 58)
	}
}

func BenchmarkSearch(b *testing.B) {
	for b.Loop() {
		prime.Search(61, mostStep, 16)
	}
}

func BenchmarkRoot(b *testing.B) {
	for b.Loop() {
		prime.Root(18446744069414584321, mostStep)
	}
}
