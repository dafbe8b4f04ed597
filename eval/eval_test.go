package eval_test

import (
	"math"
	"slices"
	"strconv"
	"testing"

	"arras/api"
	"arras/eval"
)

const (
	most     = math.MaxUint64
	primeEnd = 1 << 50
)

// mixer tells words that look like chance, the same ones each time.
type mixer struct{ state uint64 }

func (x *mixer) next() uint64 {
	x.state += 0x9e3779b97f4a7c15
	z := x.state
	z = (z ^ z>>30) * 0xbf58476d1ce4e5b9
	z = (z ^ z>>27) * 0x94d049bb133111eb
	return z ^ z>>31
}

// numbers are n below an end, some of them 0, the greatest, and those about the middle.
func (x *mixer) numbers(n int, end uint64) []uint64 {
	list := make([]uint64, n)
	for i := range list {
		list[i] = []uint64{0, end - 1, end / 2, end/2 + 1, x.next() % end, x.next() % end, x.next() % end, x.next() % end}[x.next()%8]
	}
	return list
}

// element is one of a row's primes.
func (x *mixer) element(n int, row []uint64) api.Poly {
	var a api.Poly
	for _, q := range row {
		a.R = append(a.R, x.numbers(n, q))
	}
	return a
}

// cipher is one of so many parts.
func (x *mixer) cipher(p api.Params, parts, level int) api.Cipher {
	var c api.Cipher
	for range parts {
		c.C = append(c.C, x.element(p.N, p.Q[:level+1]))
	}
	return c
}

// key is a switch of whatever numbers.
func (x *mixer) key(p api.Params) api.Switch {
	var k api.Switch
	for range p.Q {
		k.B = append(k.B, x.element(p.N, p.Q))
		k.A = append(k.A, x.element(p.N, p.Q))
	}
	return k
}

func (x *mixer) secret(n int) []int64 {
	list := make([]int64, n)
	for i := range list {
		list[i] = int64(x.next()%3) - 1
	}
	return list
}

func samePoly(a, b api.Poly) bool {
	return slices.EqualFunc(a.R, b.R, slices.Equal[[]uint64])
}

func sameCipher(a, b api.Cipher) bool {
	return slices.EqualFunc(a.C, b.C, samePoly)
}

func right(t *testing.T, what string, got api.Cipher, err api.Errno, want api.Cipher) {
	t.Helper()
	if err != api.OK || !sameCipher(got, want) {
		t.Error(what, err)
	}
}

// primesBelow are the greatest ones below an end that are 1 modulo 2n, falling.
func primesBelow(n int, end uint64, count int) []uint64 {
	var list []uint64
	step := uint64(2 * n)
	for q := (end-2)/step*step + 1; len(list) < count; q -= step {
		if word(q).ProbablyPrime(0) {
			list = append(list, q)
		}
	}
	return list
}

// leastPrimes are the least ones that are 1 modulo 2n.
func leastPrimes(n, count int) []uint64 {
	var list []uint64
	for q := uint64(2*n + 1); len(list) < count; q += uint64(2 * n) {
		if word(q).ProbablyPrime(0) {
			list = append(list, q)
		}
	}
	return list
}

func paramsOf(n int, plain uint64, width int, row ...uint64) api.Params {
	return api.Params{N: n, T: plain, Q: row, Width: width}
}

func example() api.Params { return paramsOf(8, 17, 2, 97, 193) }

// small are parameters of few coefficients: the least width and the greatest, the least T and the greatest, a T beyond the modulus, one prime up to as many as may be, the least and the greatest, rising and falling.
func small() []api.Params {
	list := []api.Params{example(), paramsOf(8, 17, 1, 97), paramsOf(8, 17, 1, 193, 97), paramsOf(8, 97, api.MaxError, 17), paramsOf(8, 257, 3, 17, 97, 113)}
	for n := 8; n <= 64; n *= 2 {
		for i, row := range [][]uint64{leastPrimes(n, 3)[1:], leastPrimes(n, 9)[1:], primesBelow(n, primeEnd, 1), primesBelow(n, primeEnd, 3)} {
			list = append(list, paramsOf(n, leastPrimes(n, 1)[0], 1+5*i, row...), paramsOf(n, primesBelow(n, api.MaxT, 1)[0], 2+i, row...))
		}
	}
	return append(list, paramsOf(8, 17, 3, primesBelow(8, primeEnd, api.MaxPrimes)...))
}

// great are parameters of many coefficients, with as many bits as the table's row allows, and with as many primes.
func great() []api.Params {
	return []api.Params{
		paramsOf(128, 257, 2, primesBelow(128, primeEnd, 5)...),
		paramsOf(256, 7681, 4, leastPrimes(256, 9)[1:]...),
		paramsOf(1024, 12289, 2, primesBelow(1024, 1<<27, 1)...),
		paramsOf(2048, 12289, 10, primesBelow(2048, 1<<27, 2)...),
		paramsOf(api.MaxN, 40961, api.MaxError, append(primesBelow(api.MaxN, 1<<36, 2), primesBelow(api.MaxN, 1<<37, 1)...)...),
	}
}

func name(p api.Params) string {
	text := "N " + strconv.Itoa(p.N) + " T " + strconv.FormatUint(p.T, 10) + " Width " + strconv.Itoa(p.Width) + " Q"
	for _, q := range p.Q {
		text += " " + strconv.FormatUint(q, 10)
	}
	return text
}

func nameAt(p api.Params, level, parts int) string {
	return name(p) + " level " + strconv.Itoa(level) + " parts " + strconv.Itoa(parts)
}

func evalOf(t testing.TB, p api.Params) *eval.Eval {
	t.Helper()
	v, err := eval.New(p)
	if err != api.OK || v == nil {
		t.Fatal(name(p), v, err)
	}
	return v
}

// texts are such as may be reckoned with: mixed, all 0, 1, the greatest, about the middle, where signs change, and one number alone.
func texts(p api.Params) [][]uint64 {
	list := [][]uint64{(&mixer{state: p.T + uint64(p.N)}).numbers(p.N, p.T)}
	for _, v := range []uint64{0, 1, p.T - 1, p.T / 2, p.T/2 + 1} {
		list = append(list, slices.Repeat([]uint64{v}, p.N))
	}
	alone := make([]uint64, p.N)
	alone[p.N-1] = p.T / 2
	return append(list, alone)
}

// some is the first of many, where there are many coefficients.
func some[Thing any](p api.Params, things []Thing) []Thing {
	if p.N > 64 {
		return things[:1]
	}
	return things
}

// overAll goes over parameters and all of their levels: of many coefficients over the lowest level and the highest two.
func overAll(list []api.Params, do func(p api.Params, level int)) {
	for _, p := range list {
		for level := range p.Q {
			if p.N <= 64 || level == 0 || level+3 > len(p.Q) {
				do(p, level)
			}
		}
	}
}

func all() []api.Params { return append(small(), great()...) }

func TestAdd(t *testing.T) {
	overAll(all(), func(p api.Params, level int) {
		v, x := evalOf(t, p), &mixer{state: p.T}
		for parts := 2; parts <= 3; parts++ {
			for others := 2; others <= 3; others++ {
				a, b := x.cipher(p, parts, level), x.cipher(p, others, level)
				got, err := v.Add(a, b)
				right(t, "Add "+nameAt(p, level, parts)+" and "+strconv.Itoa(others), got, err, addOf(p, a, b))
			}
		}
	})
}

func TestAddText(t *testing.T) {
	overAll(all(), func(p api.Params, level int) {
		v, x := evalOf(t, p), &mixer{state: p.T}
		for parts := 2; parts <= 3; parts++ {
			for i, text := range some(p, texts(p)) {
				a := x.cipher(p, parts, level)
				got, err := v.AddText(a, text)
				right(t, "AddText "+nameAt(p, level, parts)+" text "+strconv.Itoa(i), got, err, addTextOf(p, a, text))
			}
		}
	})
}

func TestMulText(t *testing.T) {
	t.Parallel()
	overAll(all(), func(p api.Params, level int) {
		v, x := evalOf(t, p), &mixer{state: p.T}
		for parts := 2; parts <= 3; parts++ {
			for i, text := range some(p, texts(p)) {
				a := x.cipher(p, parts, level)
				got, err := v.MulText(a, text)
				right(t, "MulText "+nameAt(p, level, parts)+" text "+strconv.Itoa(i), got, err, mulTextOf(p, a, text))
			}
		}
	})
}

func TestMul(t *testing.T) {
	t.Parallel()
	overAll(all(), func(p api.Params, level int) {
		v, x := evalOf(t, p), &mixer{state: p.T}
		for range some(p, []int{1, 2}) {
			a, b := x.cipher(p, 2, level), x.cipher(p, 2, level)
			got, err := v.Mul(a, b)
			right(t, "Mul "+nameAt(p, level, 2), got, err, mulOf(p, a, b))
		}
	})
}

// Of one ciphertext alone, and of elements that are all the same, products are told no otherwise.
func TestSquare(t *testing.T) {
	overAll(small(), func(p api.Params, level int) {
		v, x := evalOf(t, p), &mixer{state: p.T}
		a := x.cipher(p, 2, level)
		got, err := v.Mul(a, a)
		right(t, "square "+nameAt(p, level, 2), got, err, mulOf(p, a, a))
		a.C[1] = a.C[0]
		got, err = v.Mul(a, a)
		right(t, "square of one element "+nameAt(p, level, 2), got, err, mulOf(p, a, a))
	})
}

func TestRelin(t *testing.T) {
	t.Parallel()
	overAll(all(), func(p api.Params, level int) {
		v, x := evalOf(t, p), &mixer{state: p.T}
		a, k := x.cipher(p, 3, level), x.key(p)
		got, err := v.Relin(a, k)
		right(t, "Relin "+nameAt(p, level, 3), got, err, relinOf(p, a, k))
	})
}

// steps are such as there are slots, none, and such as are far beyond them, of both signs.
func steps(n int) []int {
	return []int{1, 0, 2, n/2 - 1, n / 2, n/2 + 1, n, -1, 1 - n/2, -n / 2, -n, 12345, -54321, math.MaxInt, math.MaxInt - 1, math.MinInt, math.MinInt + 1}
}

func TestTurn(t *testing.T) {
	t.Parallel()
	overAll(all(), func(p api.Params, level int) {
		v, x := evalOf(t, p), &mixer{state: p.T}
		list := some(p, steps(p.N))
		if len(p.Q) > 3 && p.N > 8 {
			list = list[:3]
		}
		for _, step := range list {
			a, k := x.cipher(p, 2, level), x.key(p)
			got, err := v.Turn(a, step, k)
			right(t, "Turn by "+strconv.Itoa(step)+" "+nameAt(p, level, 2), got, err, turnOf(p, a, step, k))
		}
	})
}

func TestLower(t *testing.T) {
	t.Parallel()
	overAll(all(), func(p api.Params, level int) {
		if level == 0 {
			return
		}
		v, x := evalOf(t, p), &mixer{state: p.T}
		for parts := 2; parts <= 3; parts++ {
			a := x.cipher(p, parts, level)
			got, err := v.Lower(a)
			right(t, "Lower "+nameAt(p, level, parts), got, err, lowerOf(p, a))
		}
	})
}

// Digits are centered: all residues of each prime are, in their turn, those of what is switched.
func TestDigitsOfAllResidues(t *testing.T) {
	for _, p := range []api.Params{example(), paramsOf(8, 97, 1, 17), paramsOf(16, 193, 2, 97, 257)} {
		v, x := evalOf(t, p), &mixer{}
		k := x.key(p)
		for level := range p.Q {
			for from := uint64(0); from < slices.Max(p.Q); from += uint64(p.N) {
				a := x.cipher(p, 3, level)
				for place, q := range p.Q[:level+1] {
					for i := range a.C[2].R[place] {
						a.C[2].R[place][i] = (from + uint64(i)) % q
					}
				}
				got, err := v.Relin(a, k)
				right(t, "Relin "+nameAt(p, level, 3), got, err, relinOf(p, a, k))
				a.C = a.C[1:]
				got, err = v.Turn(a, 1, k)
				right(t, "Turn "+nameAt(p, level, 2), got, err, turnOf(p, a, 1, k))
			}
		}
	}
}

// What a key has for primes beyond a level, and residues by them, tell nothing at that level.
func TestKeysAreCutToTheLevel(t *testing.T) {
	p := paramsOf(8, 17, 2, primesBelow(8, primeEnd, 4)...)
	v, x := evalOf(t, p), &mixer{}
	for level := range p.Q {
		three, two, k, other := x.cipher(p, 3, level), x.cipher(p, 2, level), x.key(p), x.key(p)
		for i := range level + 1 {
			copy(other.B[i].R, k.B[i].R[:level+1])
			copy(other.A[i].R, k.A[i].R[:level+1])
		}
		want, err := v.Relin(three, k)
		got, errGot := v.Relin(three, other)
		right(t, "Relin", got, errGot, want)
		wantTurned, errTurned := v.Turn(two, 3, k)
		got, errGot = v.Turn(two, 3, other)
		right(t, "Turn", got, errGot, wantTurned)
		if err != api.OK || errTurned != api.OK {
			t.Error(level, err, errTurned)
		}
	}
}

func benchmarked() []api.Params { return []api.Params{example(), great()[0], great()[4]} }

func BenchmarkNew(b *testing.B) {
	for _, p := range benchmarked() {
		b.Run(strconv.Itoa(p.N), func(b *testing.B) {
			for b.Loop() {
				eval.New(p)
			}
		})
	}
}

func BenchmarkCalls(b *testing.B) {
	for _, p := range benchmarked() {
		v := evalOf(b, p)
		for _, c := range calls() {
			h := goodHand(p, c)
			b.Run(c.name+" "+strconv.Itoa(p.N), func(b *testing.B) {
				for b.Loop() {
					c.do(v, h)
				}
			})
		}
	}
}
