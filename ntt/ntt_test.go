package ntt_test

import (
	"math"
	"math/big"
	"math/bits"
	"slices"
	"testing"

	"arras/api"
	"arras/ntt"
	"arras/prime"
)

const most = math.MaxUint64

// mixer tells words that look like chance, the same ones each time.
type mixer struct{ state uint64 }

func (x *mixer) next() uint64 {
	x.state += 0x9e3779b97f4a7c15
	z := x.state
	z = (z ^ z>>30) * 0xbf58476d1ce4e5b9
	z = (z ^ z>>27) * 0x94d049bb133111eb
	return z ^ z>>31
}

// list is n numbers below q, some of them 0 and q - 1.
func (x *mixer) list(n int, q uint64) []uint64 {
	out := make([]uint64, n)
	for i := range out {
		switch x.next() % 8 {
		case 0:
			out[i] = 0
		case 1:
			out[i] = q - 1
		default:
			out[i] = x.next() % q
		}
	}
	return out
}

// An independent reckoning: words that are multiplied and divided by math/bits.

func add(a, b, q uint64) uint64 { return (a + b) % q } // q is below 2^61

func mul(a, b, q uint64) uint64 {
	high, low := bits.Mul64(a, b)
	return bits.Rem64(high, low, q)
}

func isPrime(n uint64) bool { return new(big.Int).SetUint64(n).ProbablyPrime(0) }

// at is a polynomial's value at x.
func at(a []uint64, x, q uint64) uint64 {
	var sum uint64
	for _, c := range slices.Backward(a) {
		sum = add(mul(sum, x, q), c, q)
	}
	return sum
}

// rootOf is the number that the chapter names.
func rootOf(t *testing.T, n int, q uint64) uint64 {
	t.Helper()
	w, err := prime.Root(q, 2*uint64(n))
	if err != api.OK {
		t.Fatal("no root", n, q, err)
	}
	return w
}

// valuesOf are those at w, w^3, w^5, ..
func valuesOf(a []uint64, w, q uint64) []uint64 {
	var out []uint64
	square := mul(w, w, q)
	for x := w; len(out) < len(a); x = mul(x, square, q) {
		out = append(out, at(a, x, q))
	}
	return out
}

// productOf is the product modulo X^n + 1: what goes beyond n comes back less than 0.
func productOf(a, b []uint64, q uint64) []uint64 {
	n := len(a)
	out := make([]uint64, n)
	for i, c := range a {
		for j, d := range b {
			if p := mul(c, d, q); i+j < n {
				out[i+j] = add(out[i+j], p, q)
			} else {
				out[i+j-n] = add(out[i+j-n], q-p, q)
			}
		}
	}
	return out
}

func pointwise(a, b []uint64, q uint64) []uint64 {
	out := make([]uint64, len(a))
	for i := range a {
		out[i] = mul(a[i], b[i], q)
	}
	return out
}

func sizes() []int {
	var list []int
	for n := 2; n <= api.MaxN; n *= 2 {
		list = append(list, n)
	}
	return list
}

// leastPrime is the least one that is 1 modulo 2n.
func leastPrime(n int) uint64 {
	q := 2*uint64(n) + 1
	for !isPrime(q) {
		q += 2 * uint64(n)
	}
	return q
}

// greatestPrime is the greatest one that is 1 modulo 2n and below 2^61.
func greatestPrime(n int) uint64 {
	q := uint64(1<<61) - 2*uint64(n) + 1
	for !isPrime(q) {
		q -= 2 * uint64(n)
	}
	return q
}

// beyondPrime is the least one that is 1 modulo 2n and not below 2^61.
func beyondPrime(n int) uint64 {
	q := uint64(1<<61) + 1
	for !isPrime(q) {
		q += 2 * uint64(n)
	}
	return q
}

// primesFor are the least and the greatest that may be, and one between.
func primesFor(n int) []uint64 {
	between := uint64(1<<33) + 1
	for !isPrime(between) {
		between += 2 * uint64(n)
	}
	return []uint64{leastPrime(n), between, greatestPrime(n)}
}

func tableOf(t *testing.T, n int, q uint64) *ntt.Table {
	t.Helper()
	table, err := ntt.New(n, q)
	if err != api.OK || table == nil {
		t.Fatal("New", n, q, err)
	}
	return table
}

func all(n int, c uint64) []uint64 {
	return slices.Repeat([]uint64{c}, n)
}

// power is c X^k.
func power(n, k int, c uint64) []uint64 {
	out := make([]uint64, n)
	out[k] = c
	return out
}

// lists are noughts, the greatest numbers, single coefficients at both ends, and mixed numbers.
func lists(n int, q uint64) [][]uint64 {
	x := &mixer{state: uint64(n) ^ q}
	return [][]uint64{all(n, 0), all(n, q-1), all(n, 1), power(n, 0, 1), power(n, 0, q-1), power(n, 1, 1), power(n, n-1, 1), power(n, n-1, q-1), x.list(n, q), x.list(n, q)}
}

// someLists are as many as a slow reckoning has the time for.
func someLists(n int, q uint64) [][]uint64 {
	list := lists(n, q)
	if n > 256 {
		return list[len(list)-1:]
	}
	return list
}

// forTables hands on a table of each size, each with a small, a greater and the greatest prime.
func forTables(t *testing.T, visit func(table *ntt.Table, n int, q uint64)) {
	t.Helper()
	for _, n := range sizes() {
		for _, q := range primesFor(n) {
			visit(tableOf(t, n, q), n, q)
		}
	}
}

func right(t *testing.T, what string, got []uint64, err api.Errno, want []uint64) {
	t.Helper()
	if err != api.OK || !slices.Equal(got, want) {
		t.Fatal(what, err, len(got), len(want), got[:min(len(got), 8)], want[:min(len(want), 8)])
	}
}

func refused(t *testing.T, what string, got []uint64, err, want api.Errno) {
	t.Helper()
	if err != want || len(got) != 0 {
		t.Error(what, err, want, len(got))
	}
}

func TestValues(t *testing.T) {
	forTables(t, func(table *ntt.Table, n int, q uint64) {
		w := rootOf(t, n, q)
		for _, a := range someLists(n, q) {
			got, err := table.Values(a)
			right(t, "Values", got, err, valuesOf(a, w, q))
		}
	})
}

// Each value of X is the root's odd power, in the order of the chapter; of a constant it is the constant.
func TestValuesOfSinglePowers(t *testing.T) {
	forTables(t, func(table *ntt.Table, n int, q uint64) {
		w := rootOf(t, n, q)
		var odd []uint64
		for x := w; len(odd) < n; x = mul(mul(x, w, q), w, q) {
			odd = append(odd, x)
		}
		got, err := table.Values(power(n, 1, 1))
		right(t, "X", got, err, odd)
		for _, c := range []uint64{0, 1, 2, q - 1} {
			got, err = table.Values(power(n, 0, c))
			right(t, "a constant", got, err, all(n, c))
		}
	})
}

func TestBack(t *testing.T) {
	forTables(t, func(table *ntt.Table, n int, q uint64) {
		w := rootOf(t, n, q)
		for _, v := range someLists(n, q) {
			a, err := table.Back(v)
			if len(a) != n || slices.Max(a) >= q {
				t.Fatal("no polynomial", n, q, len(a), err)
			}
			right(t, "Back", v, err, valuesOf(a, w, q))
		}
	})
}

func TestMul(t *testing.T) {
	forTables(t, func(table *ntt.Table, n int, q uint64) {
		x := &mixer{state: q}
		for _, a := range someLists(n, q) {
			for _, b := range [][]uint64{a, x.list(n, q)} {
				got, err := table.Mul(a, b)
				right(t, "Mul", got, err, productOf(a, b, q))
			}
		}
	})
}

// All that there is modulo small primes, where the root is the least by going through all numbers.
func TestAllOfTwoCoefficients(t *testing.T) {
	for q, w := range map[uint64]uint64{5: 2, 13: 5, 17: 4} {
		table := tableOf(t, 2, q)
		for k := range q * q {
			a := []uint64{k / q, k % q}
			v, err := table.Values(a)
			right(t, "Values", v, err, valuesOf(a, w, q))
			back, err := table.Back(v)
			right(t, "Back", back, err, a)
			for m := range q * q {
				b := []uint64{m / q, m % q}
				got, err := table.Mul(a, b)
				right(t, "Mul", got, err, productOf(a, b, q))
			}
		}
	}
}

// X^n is -1: powers go round, and come back less than 0.
func TestPowersGoRound(t *testing.T) {
	forTables(t, func(table *ntt.Table, n int, q uint64) {
		for _, pair := range [][2]int{{0, 0}, {0, n - 1}, {1, n - 1}, {n / 2, n / 2}, {n - 1, n - 1}, {n / 2, n - 1}} {
			i, j := pair[0], pair[1]
			want := power(n, (i+j)%n, 1)
			if i+j >= n {
				want = power(n, i+j-n, q-1)
			}
			got, err := table.Mul(power(n, i, 1), power(n, j, 1))
			right(t, "X^i X^j", got, err, want)
		}
	})
}

func TestThereAndBack(t *testing.T) {
	forTables(t, func(table *ntt.Table, n int, q uint64) {
		for _, a := range lists(n, q) {
			v, err := table.Values(a)
			if err != api.OK {
				t.Fatal(n, q, err)
			}
			back, err := table.Back(v)
			right(t, "Back of Values", back, err, a)
			p, err := table.Back(a)
			if err != api.OK {
				t.Fatal(n, q, err)
			}
			again, err := table.Values(p)
			right(t, "Values of Back", again, err, a)
		}
	})
}

func TestValuesOfProducts(t *testing.T) {
	forTables(t, func(table *ntt.Table, n int, q uint64) {
		for _, a := range lists(n, q) {
			for _, b := range lists(n, q) {
				p, err := table.Mul(a, b)
				if err != api.OK {
					t.Fatal(n, q, err)
				}
				ofA, _ := table.Values(a)
				ofB, _ := table.Values(b)
				got, err := table.Values(p)
				right(t, "values of a product", got, err, pointwise(ofA, ofB, q))
			}
		}
	})
}

func TestNewTakesAllThatMayBe(t *testing.T) {
	for n := -3; n <= 40; n++ {
		for q := range uint64(400) {
			mayBe := n >= 2 && n&(n-1) == 0 && isPrime(q) && q%uint64(2*n) == 1
			table, err := ntt.New(n, q)
			if mayBe != (err == api.OK) || mayBe != (table != nil) || !mayBe && err != api.ErrArg {
				t.Fatal(n, q, err)
			}
		}
	}
	tableOf(t, api.MaxN, 40961)
	tableOf(t, api.MaxN, 65537)
}

func noTable(t *testing.T, n int, q uint64) {
	t.Helper()
	if table, err := ntt.New(n, q); table != nil || err != api.ErrArg {
		t.Error(n, q, err)
	}
}

func TestNewOfSizesThatMayNotBe(t *testing.T) {
	wrong := []int{
		math.MinInt, math.MinInt + 2, -1 << 32, -4096, -2, -1, 0, 1, 3, 5, 6, 7, 12, 24, 1000, api.MaxN - 1, api.MaxN + 1, api.MaxN + 2, api.MaxN * 3 / 2,
		2 * api.MaxN, 4 * api.MaxN, 1 << 31, 1<<32 + 2, 1 << 32, 1<<61 + 2, 1 << 61, 1 << 62, 1<<62 + 2, math.MaxInt - 1, math.MaxInt,
	}
	for _, n := range wrong {
		for _, q := range []uint64{0, 1, 2, 3, 5, 7, 13, 17, 97, 193, 65537, 786433, 998244353, greatestPrime(api.MaxN), beyondPrime(2), most} {
			noTable(t, n, q)
		}
	}
	// Primes that are 1 modulo 2n, with n a number that may not be: one, no power of two, too great.
	noTable(t, 1, 3)
	noTable(t, 3, 7)
	noTable(t, 6, 13)
	noTable(t, 2*api.MaxN, 65537)
}

func TestNewOfModuliThatMayNotBe(t *testing.T) {
	for _, n := range sizes() {
		order := 2 * uint64(n)
		for _, q := range []uint64{0, 1, 2, 3, order - 1, order, order * order, beyondPrime(n), 4179340454199820289, 18446744069414584321, 1<<61 + 1, 1 << 61, 1<<61 - 1, 1 << 63, most - 1, most} {
			if !isPrime(q) || q%order != 1 || q >= 1<<61 {
				noTable(t, n, q)
			}
		}
		noTable(t, n, 65537*65537) // 1 modulo 2n, no prime
		for q := order + 1; q < 60*order; q += order {
			if !isPrime(q) {
				noTable(t, n, q)
			}
		}
		// A prime that is 1 modulo n, but not modulo 2n.
		q := uint64(n) + 1
		for !isPrime(q) || q%order == 1 {
			q += uint64(n)
		}
		noTable(t, n, q)
	}
	for _, pair := range [][2]uint64{{2, 7}, {2, 9}, {2, 25}, {4, 5}, {4, 9}, {4, 25}, {8, 561}, {32, 1729}, {2, 8911}, {2, 3215031751}, {2, 341550071728321}, {api.MaxN, 12289}} {
		noTable(t, int(pair[0]), pair[1])
	}
}

// wrongLists are too short, too long, or have one number that isn't below q.
func wrongLists(n int, q uint64) [][]uint64 {
	wrong := [][]uint64{nil, {}, all(n-1, 1), all(n+1, 1), all(2*n, 0), all(n/2, q-1), all(n-1, q), all(n+1, most), all(n, q), all(n, most)}
	for _, place := range []int{0, 1, n / 2, n - 1} {
		for _, number := range []uint64{q, q + 1, 2 * q, 1 << 61, 1 << 63, most} {
			list := all(n, q-1)
			list[place] = number
			wrong = append(wrong, list)
		}
	}
	return wrong
}

func TestWrongLists(t *testing.T) {
	forTables(t, func(table *ntt.Table, n int, q uint64) {
		good := (&mixer{}).list(n, q)
		was, _ := table.Mul(good, good)
		for _, list := range wrongLists(n, q) {
			got, err := table.Values(list)
			refused(t, "Values", got, err, api.ErrForm)
			got, err = table.Back(list)
			refused(t, "Back", got, err, api.ErrForm)
			for _, other := range [][]uint64{good, list, nil} {
				got, err = table.Mul(list, other)
				refused(t, "Mul, the first", got, err, api.ErrForm)
				got, err = table.Mul(other, list)
				refused(t, "Mul, the second", got, err, api.ErrForm)
			}
		}
		again, err := table.Mul(good, good)
		right(t, "after errors", again, err, was)
	})
}

func TestNoTable(t *testing.T) {
	// A table that New didn't make knows no polynomials, as one that is nil.
	for _, table := range []*ntt.Table{nil, {}} {
		for _, list := range [][]uint64{nil, {}, {0}, {1, 1}, {5, 0}, {most, most}, all(api.MaxN, 0)} {
			got, err := table.Values(list)
			refused(t, "Values", got, err, api.ErrArg)
			got, err = table.Back(list)
			refused(t, "Back", got, err, api.ErrArg)
			got, err = table.Mul(list, list)
			refused(t, "Mul", got, err, api.ErrArg)
			got, err = table.Mul(list, []uint64{1, 1})
			refused(t, "Mul", got, err, api.ErrArg)
		}
	}
}

func TestExamples(t *testing.T) {
	table := tableOf(t, 2, 5)
	v, err := table.Values([]uint64{0, 1})
	right(t, "w and w^3", v, err, []uint64{2, 3})
	v, err = table.Values([]uint64{1, 1})
	right(t, "1 + X", v, err, []uint64{3, 4})
	v, err = table.Back([]uint64{3, 4})
	right(t, "back", v, err, []uint64{1, 1})
	v, err = table.Mul([]uint64{0, 1}, []uint64{0, 1})
	right(t, "X times X", v, err, []uint64{4, 0})
}

func BenchmarkNew(b *testing.B) {
	q := greatestPrime(api.MaxN)
	for b.Loop() {
		ntt.New(api.MaxN, q)
	}
}

func BenchmarkValues(b *testing.B) {
	q := greatestPrime(api.MaxN)
	table, _ := ntt.New(api.MaxN, q)
	a := (&mixer{}).list(api.MaxN, q)
	for b.Loop() {
		table.Values(a)
	}
}

func BenchmarkMul(b *testing.B) {
	q := greatestPrime(api.MaxN)
	table, _ := ntt.New(api.MaxN, q)
	a := (&mixer{}).list(api.MaxN, q)
	for b.Loop() {
		table.Mul(a, a)
	}
}
