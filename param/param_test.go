package param_test

import (
	"math"
	"math/big"
	"slices"
	"strconv"
	"testing"

	"arras/api"
	"arras/param"
)

const (
	most     = math.MaxUint64
	primeEnd = 1 << 50
)

// mixer tells words that look like chance, the same ones each time.
type mixer struct{ state uint64 }

func (x *mixer) next() uint64 {
	x.state += 0x9e3779b97f4a7c15
	z := x.state
	z = (z ^ z>>30) * 0xbf58476d1ce4e5b9
	z = (z ^ z>>27) * 0x94d049bb133111eb
	return z ^ z>>31
}

// An independent reckoning, by math/big.

func number(w uint64) *big.Int { return new(big.Int).SetUint64(w) }

func isPrime(n uint64) bool { return number(n).ProbablyPrime(0) }

func productOf(row []uint64) *big.Int {
	product := big.NewInt(1)
	for _, q := range row {
		product.Mul(product, number(q))
	}
	return product
}

func valueOf(a api.Nat) *big.Int {
	v := new(big.Int)
	for _, w := range slices.Backward(a) {
		v.Lsh(v, 64)
		v.Or(v, number(w))
	}
	return v
}

// told is a natural as it should be told.
func told(v *big.Int) api.Nat {
	var words api.Nat
	for left := new(big.Int).Set(v); left.Sign() > 0; left.Rsh(left, 64) {
		words = append(words, new(big.Int).And(left, number(most)).Uint64())
	}
	return words
}

// table is the chapter's rows, as they stand there.
func table() map[int]int {
	return map[int]int{8: 420, 16: 420, 32: 420, 64: 420, 128: 420, 256: 420, 512: 0, 1024: 27, 2048: 54, 4096: 109}
}

// may asks by the chapter's words, one behind the other.
func may(p api.Params) bool {
	bits, isSize := table()[p.N]
	if !isSize || p.Width < 1 || p.Width > 16 || len(p.Q) < 1 || len(p.Q) > 8 || p.T >= 1073741824 {
		return false
	}
	seen := map[uint64]int{}
	for _, q := range append(slices.Clone(p.Q), p.T) {
		seen[q]++
		if seen[q] > 1 || q >= primeEnd || (q-1)%(2*uint64(p.N)) != 0 || !isPrime(q) {
			return false
		}
	}
	return productOf(p.Q).BitLen() <= bits
}

// falling are the greatest primes below an end that are 1 modulo a step.
func falling(end, step uint64, count int) []uint64 {
	var list []uint64
	for q := (end-2)/step*step + 1; len(list) < count; q -= step {
		if isPrime(q) {
			list = append(list, q)
		}
	}
	return list
}

// rising are the least primes from a beginning on that are 1 modulo a step.
func rising(from, step uint64, count int) []uint64 {
	var list []uint64
	for q := (from+step-2)/step*step + 1; len(list) < count; q += step {
		if isPrime(q) {
			list = append(list, q)
		}
	}
	return list
}

func sizes() []int { return []int{8, 16, 32, 64, 128, 256, 1024, 2048, 4096} }

// plainOf is a T that is small for the size, and no prime of the moduli below.
func plainOf(n int) uint64 { return rising(3, 2*uint64(n), 1)[0] }

// rowsFor are primes of a modulus whose product is within the row of a size.
func rowsFor(n int) [][]uint64 {
	step := 2 * uint64(n)
	small := rising(plainOf(n)+1, step, api.MaxPrimes)
	rows := [][]uint64{small[:1]}
	if n > 256 {
		bits := table()[n]
		rows = append(rows, falling(1<<min(bits, 50), step, 1))
		for count := 2; count <= 4; count++ {
			if row := small[:count]; productOf(row).BitLen() <= bits {
				rows = append(rows, row)
			}
		}
		return rows
	}
	great := falling(primeEnd, step, api.MaxPrimes)
	for count := 1; count <= api.MaxPrimes; count++ {
		mixed := append(slices.Clone(great[:count-1]), small[count-1])
		rows = append(rows, small[:count], great[:count], mixed)
	}
	return rows
}

// good are parameters that may be: of all sizes, T small and as great as may be, rows of one prime and of many, all widths.
func good() []api.Params {
	var list []api.Params
	for _, n := range sizes() {
		for i, row := range rowsFor(n) {
			for _, t := range []uint64{plainOf(n), falling(api.MaxT, 2*uint64(n), 1)[0]} {
				list = append(list, api.Params{N: n, T: t, Q: row, Width: 1 + i%api.MaxError})
			}
		}
	}
	return list
}

func example() api.Params {
	return api.Params{N: 8, T: 17, Q: []uint64{97, 193}, Width: 2}
}

func name(p api.Params) string {
	text := "N " + strconv.Itoa(p.N) + " T " + strconv.FormatUint(p.T, 10) + " Width " + strconv.Itoa(p.Width) + " Q"
	for _, q := range p.Q {
		text += " " + strconv.FormatUint(q, 10)
	}
	return text
}

// right holds a level's modulus, step and rest against the reckoning.
func right(t *testing.T, p api.Params, level int) {
	t.Helper()
	want := productOf(p.Q[:level+1])
	modulus, err := param.Modulus(p, level)
	if err != api.OK || !slices.Equal(modulus, told(want)) {
		t.Error(name(p), level, modulus, err, want)
	}
	wantStep, wantRest := new(big.Int).DivMod(want, number(p.T), new(big.Int))
	step, rest, err := param.Step(p, level)
	if err != api.OK || !slices.Equal(step, told(wantStep)) || rest != wantRest.Uint64() {
		t.Error(name(p), level, step, rest, err, wantStep, wantRest)
	}
}

func TestExamples(t *testing.T) {
	p := example()
	if err := param.Check(p); err != api.OK {
		t.Error(err)
	}
	if modulus, err := param.Modulus(p, 1); err != api.OK || !slices.Equal(modulus, api.Nat{18721}) {
		t.Error(modulus, err)
	}
	if step, rest, err := param.Step(p, 1); err != api.OK || !slices.Equal(step, api.Nat{1101}) || rest != 4 {
		t.Error(step, rest, err)
	}
}

func TestRow(t *testing.T) {
	rows := table()
	for n := -5000; n <= 10000; n++ {
		if got := param.Row(n); got != rows[n] {
			t.Error(n, got, rows[n])
		}
	}
	for shift := range 64 {
		power := 1 << shift
		for _, n := range []int{power, -power, power - 1, power + 1} {
			if got := param.Row(n); got != rows[n] {
				t.Error(n, got, rows[n])
			}
		}
	}
	for _, n := range []int{math.MinInt, math.MaxInt, 1<<32 + 8, 1<<32 + 1024, -1024} {
		if got := param.Row(n); got != 0 {
			t.Error(n, got)
		}
	}
}

func TestThoseThatMayBe(t *testing.T) {
	list := good()
	for _, p := range list {
		if !may(p) {
			t.Fatal("not by the chapter's words:", name(p))
		}
		if err := param.Check(p); err != api.OK {
			t.Error(name(p), err)
		}
	}
	for _, width := range []int{1, 2, 15, api.MaxError} {
		p := example()
		p.Width = width
		if err := param.Check(p); err != api.OK {
			t.Error(width, err)
		}
	}
	if len(list) < 200 {
		t.Error(len(list))
	}
}

// T need not be less than the primes of the modulus, nor these be in any order.
func TestAnyOrderMayBe(t *testing.T) {
	for _, p := range []api.Params{
		{N: 8, T: 193, Q: []uint64{17, 97}, Width: 2},
		{N: 8, T: 193, Q: []uint64{97, 17}, Width: 2},
		{N: 8, T: 97, Q: []uint64{193, 17, 113}, Width: 2},
		{N: 8, T: 97, Q: []uint64{17}, Width: 2},
	} {
		if err := param.Check(p); err != api.OK {
			t.Error(name(p), err)
		}
		for level := range p.Q {
			right(t, p, level)
		}
	}
}

func TestTop(t *testing.T) {
	for _, p := range good() {
		if got := param.Top(p); got != len(p.Q)-1 {
			t.Error(name(p), got)
		}
	}
	for _, count := range []int{0, 1, 2, api.MaxPrimes, api.MaxPrimes + 1, 1000} {
		p := api.Params{N: -3, Q: make([]uint64, count)}
		if got := param.Top(p); got != count-1 {
			t.Error(count, got)
		}
	}
	if got := param.Top(api.Params{}); got != -1 {
		t.Error(got)
	}
}

func TestLevels(t *testing.T) {
	for _, p := range good() {
		for level := range p.Q {
			right(t, p, level)
		}
	}
}

// P8.2, by the answers alone.
func TestStepAndRestMakeTheModulus(t *testing.T) {
	for _, p := range good() {
		for level := range p.Q {
			modulus, _ := param.Modulus(p, level)
			step, rest, err := param.Step(p, level)
			together := new(big.Int).Mul(valueOf(step), number(p.T))
			together.Add(together, number(rest))
			if err != api.OK || together.Cmp(valueOf(modulus)) != 0 || rest >= p.T || len(modulus) == 0 {
				t.Error(name(p), level, step, rest, modulus, err)
			}
		}
	}
}

// T is greater than the modulus: the step is 0, and the rest is the modulus.
func TestStepOfNone(t *testing.T) {
	p := api.Params{N: 8, T: 257, Q: []uint64{97, 193}, Width: 1}
	if step, rest, err := param.Step(p, 0); len(step) != 0 || rest != 97 || err != api.OK {
		t.Error(step, rest, err)
	}
	if step, rest, err := param.Step(p, 1); !slices.Equal(step, api.Nat{72}) || rest != 217 || err != api.OK {
		t.Error(step, rest, err)
	}
}

func TestSameOfTheSame(t *testing.T) {
	list := append(good(), wrong()...)
	for i, p := range list {
		again := p
		again.Q = append(slices.Clone(p.Q), 5, 7)[:len(p.Q)]
		if !param.Same(p, again) || !param.Same(p, p) {
			t.Error(name(p))
		}
		next := list[(i+1)%len(list)]
		if want := name(p) == name(next); param.Same(p, next) != want || param.Same(next, p) != want {
			t.Error(name(p), name(next), want)
		}
	}
	if !param.Same(api.Params{Q: []uint64{}}, api.Params{}) || !param.Same(api.Params{}, api.Params{Q: []uint64{}}) {
		t.Error("no primes are no primes")
	}
	long := slices.Repeat([]uint64{97}, 1000)
	if !param.Same(api.Params{Q: long}, api.Params{Q: slices.Clone(long)}) {
		t.Error("long rows")
	}
}

func TestSameOfOthers(t *testing.T) {
	p := example()
	for _, other := range []api.Params{
		{N: 16, T: 17, Q: []uint64{97, 193}, Width: 2},
		{N: -8, T: 17, Q: []uint64{97, 193}, Width: 2},
		{N: 8 + 1<<32, T: 17, Q: []uint64{97, 193}, Width: 2},
		{N: 8, T: 113, Q: []uint64{97, 193}, Width: 2},
		{N: 8, T: 17 + 1<<32, Q: []uint64{97, 193}, Width: 2},
		{N: 8, T: 17 + 1<<63, Q: []uint64{97, 193}, Width: 2},
		{N: 8, T: 17, Q: []uint64{97, 193}, Width: 3},
		{N: 8, T: 17, Q: []uint64{97, 193}, Width: -2},
		{N: 8, T: 17, Q: []uint64{97, 193}, Width: 2 + 1<<32},
		{N: 8, T: 17, Q: []uint64{193, 97}, Width: 2},
		{N: 8, T: 17, Q: []uint64{97, 241}, Width: 2},
		{N: 8, T: 17, Q: []uint64{113, 193}, Width: 2},
		{N: 8, T: 17, Q: []uint64{97}, Width: 2},
		{N: 8, T: 17, Q: []uint64{193}, Width: 2},
		{N: 8, T: 17, Q: []uint64{97, 193, 241}, Width: 2},
		{N: 8, T: 17, Q: []uint64{97, 193, 0}, Width: 2},
		{N: 8, T: 17, Q: []uint64{0, 97, 193}, Width: 2},
		{N: 8, T: 17, Width: 2},
		{N: 17, T: 8, Q: []uint64{97, 193}, Width: 2},
		{N: 2, T: 17, Q: []uint64{97, 193}, Width: 8},
		{N: 8, T: 2, Q: []uint64{97, 193}, Width: 17},
		{},
	} {
		if param.Same(p, other) || param.Same(other, p) {
			t.Error(name(other))
		}
	}
}

// Rows longer than may be are told apart at their ends, and numbers at the ends of int from one another.
func TestSameAtTheEnds(t *testing.T) {
	long := slices.Repeat([]uint64{97}, 100)
	for place := range long {
		other := slices.Clone(long)
		other[place]++
		if param.Same(api.Params{Q: long}, api.Params{Q: other}) {
			t.Error(place)
		}
	}
	ends := []int{math.MinInt, math.MinInt + 1, -1, 0, 1, math.MaxInt - 1, math.MaxInt}
	for _, a := range ends {
		for _, b := range ends {
			if param.Same(api.Params{N: a}, api.Params{N: b}) != (a == b) || param.Same(api.Params{Width: a}, api.Params{Width: b}) != (a == b) {
				t.Error(a, b)
			}
			if param.Same(api.Params{T: uint64(a)}, api.Params{T: uint64(b)}) != (a == b) {
				t.Error(uint64(a), uint64(b))
			}
			if param.Same(api.Params{N: a, Width: b}, api.Params{N: b, Width: a}) != (a == b) {
				t.Error(a, b)
			}
		}
	}
}

// Parameters of which some fields are good and some aren't, by the chapter's words.
func TestMixedParameters(t *testing.T) {
	x := &mixer{state: 1}
	primes := []uint64{17, 97, 113, 193, 241, 257, 7681, 12289, 40961, 65537, 786433, 2, 3, 5, 16, 33, 49, 289, 561, 1105, 0, 1, 9, most, primeEnd + 1, falling(primeEnd, 16, 1)[0]}
	one := func() uint64 { return primes[x.next()%uint64(len(primes))] }
	mays := 0
	for range 40000 {
		p := api.Params{N: 1 << (x.next() % 6), T: one(), Width: int(x.next() % 20)}
		for range x.next() % 4 {
			p.Q = append(p.Q, one())
		}
		want := api.ErrParam
		if may(p) {
			want = api.OK
			mays++
		}
		if got := param.Check(p); got != want {
			t.Fatal(name(p), got, want)
		}
		level := int(x.next()%5) - 1
		switch {
		case want == api.OK && level >= 0 && level < len(p.Q):
			right(t, p, level)
		case want == api.OK:
			refused(t, p, level, api.ErrLevel)
		default:
			refused(t, p, level, api.ErrParam)
		}
	}
	if mays < 100 {
		t.Error(mays)
	}
}

func BenchmarkCheck(b *testing.B) {
	p := api.Params{N: 8, T: falling(api.MaxT, 16, 1)[0], Q: falling(primeEnd, 16, api.MaxPrimes), Width: 2}
	for b.Loop() {
		param.Check(p)
	}
}

func BenchmarkStep(b *testing.B) {
	p := api.Params{N: 8, T: falling(api.MaxT, 16, 1)[0], Q: falling(primeEnd, 16, api.MaxPrimes), Width: 2}
	for b.Loop() {
		param.Step(p, 7)
	}
}
