package word_test

import (
	"math"
	"math/big"
	"testing"

	"arras/word"
)

const most = math.MaxUint64

// edges are the words at which halves, signs and limits change.
func edges() []uint64 {
	return []uint64{
		0, 1, 2, 3, 4, 6, 7, 10, 97, 1<<31 - 1, 1 << 31, 1<<32 - 1, 1 << 32, 1<<32 + 1, 3 << 32, 1<<61 - 1,
		1<<62 - 1, 1 << 62, 1<<62 + 1, 1<<63 - 1, 1 << 63, 1<<63 + 1, 1<<63 + 1<<32 - 1, most - 1<<32, most - 58, most - 1, most,
	}
}

// mixer tells words that look like chance, the same ones each time.
type mixer struct{ state uint64 }

func (x *mixer) next() uint64 {
	x.state += 0x9e3779b97f4a7c15
	z := x.state
	z = (z ^ z>>30) * 0xbf58476d1ce4e5b9
	z = (z ^ z>>27) * 0x94d049bb133111eb
	return z ^ z>>31
}

// any is a word of any number of bits.
func (x *mixer) any() uint64 {
	return x.next() >> (x.next() % 65)
}

// forTriples hands on all edges, all small numbers, and mixed words.
func forTriples(visit func(a, b, m uint64)) {
	for _, m := range edges() {
		for _, a := range edges() {
			for _, b := range edges() {
				visit(a, b, m)
			}
		}
	}
	for m := range uint64(14) {
		for a := range uint64(18) {
			for b := range uint64(18) {
				visit(a, b, m)
			}
		}
	}
	x := &mixer{}
	for range 20000 {
		visit(x.any(), x.any(), x.any())
		visit(x.next(), x.next(), x.next())
	}
}

func number(w uint64) *big.Int { return new(big.Int).SetUint64(w) }

// modulo is what is asked of all that is told modulo m.
func modulo(v *big.Int, m uint64) uint64 {
	if m == 0 {
		return 0
	}
	return new(big.Int).Mod(v, number(m)).Uint64()
}

func TestWide(t *testing.T) {
	forTriples(func(a, b, _ uint64) {
		high, low := word.Wide(a, b)
		told := new(big.Int).Lsh(number(high), 64)
		told.Add(told, number(low))
		if told.Cmp(new(big.Int).Mul(number(a), number(b))) != 0 {
			t.Fatal(a, b, high, low)
		}
	})
}

func TestAddSubMul(t *testing.T) {
	forTriples(func(a, b, m uint64) {
		x, y := number(a), number(b)
		if got := word.Add(a, b, m); got != modulo(new(big.Int).Add(x, y), m) {
			t.Fatal("Add", a, b, m, got)
		}
		if got := word.Sub(a, b, m); got != modulo(new(big.Int).Sub(x, y), m) {
			t.Fatal("Sub", a, b, m, got)
		}
		if got := word.Mul(a, b, m); got != modulo(new(big.Int).Mul(x, y), m) {
			t.Fatal("Mul", a, b, m, got)
		}
	})
}

func TestPow(t *testing.T) {
	check := func(a, n, m uint64) {
		var want uint64
		if m > 0 {
			want = new(big.Int).Exp(number(a), number(n), number(m)).Uint64()
		}
		if got := word.Pow(a, n, m); got != want {
			t.Fatal(a, n, m, got, want)
		}
	}
	for _, m := range edges() {
		for _, a := range edges() {
			for _, n := range edges() {
				check(a, n, m)
			}
		}
	}
	x := &mixer{}
	for range 500 {
		check(x.any(), x.any(), x.any())
	}
}

func TestPowOfNothing(t *testing.T) {
	for _, m := range edges() {
		want := uint64(1)
		if m < 2 {
			want = 0
		}
		for _, a := range edges() {
			if got := word.Pow(a, 0, m); got != want {
				t.Error(a, m, got)
			}
		}
	}
}

func TestInv(t *testing.T) {
	forTriples(func(a, _, m uint64) {
		got, ok := word.Inv(a, m)
		var want *big.Int
		if m >= 2 {
			want = new(big.Int).ModInverse(number(a), number(m))
		}
		if ok != (want != nil) {
			t.Fatal(a, m, got, ok)
		}
		if !ok && got != 0 || ok && got != want.Uint64() {
			t.Fatal(a, m, got, want)
		}
	})
}

func TestInvOfNone(t *testing.T) {
	for _, pair := range [][2]uint64{{0, 0}, {1, 0}, {0, 1}, {1, 1}, {5, 1}, {0, 7}, {14, 7}, {2, 4}, {6, 9}, {1 << 63, 1 << 62}, {3, most}, {most, most}} {
		if got, ok := word.Inv(pair[0], pair[1]); got != 0 || ok {
			t.Error(pair, got, ok)
		}
	}
}

func TestCenter(t *testing.T) {
	forTriples(func(a, _, m uint64) {
		got := word.Center(a, m)
		if m == 0 || m > 1<<62 {
			if got != 0 {
				t.Fatal(a, m, got)
			}
			return
		}
		if got < -int64((m-1)/2) || got > int64(m/2) || modulo(big.NewInt(got), m) != a%m {
			t.Fatal(a, m, got)
		}
	})
}

func TestCenterAtBothEnds(t *testing.T) {
	for _, m := range []uint64{1, 2, 3, 4, 5, 6, 7, 1<<32 + 1, 1<<62 - 1, 1 << 62} {
		if got := word.Center(m/2, m); got != int64(m/2) {
			t.Error("greatest", m, got)
		}
		if got := word.Center(m/2+1, m); m > 2 && got != -int64((m-1)/2) {
			t.Error("least", m, got)
		}
		if word.Center(m, m) != 0 || word.Center(m-1, m) != max(-1, -int64((m-1)/2)) && m > 2 {
			t.Error("near 0", m)
		}
	}
	if got := word.Center(1, 2); got != 1 {
		t.Error("of two the greater one", got)
	}
	for _, m := range []uint64{0, 1<<62 + 1, 1 << 63, 1<<63 + 1, most} {
		for _, a := range edges() {
			if got := word.Center(a, m); got != 0 {
				t.Error("no such modulus", a, m, got)
			}
		}
	}
}

func TestLift(t *testing.T) {
	values := []int64{0, 1, -1, 2, -2, 1 << 32, -1 << 32, math.MaxInt64, math.MinInt64, math.MinInt64 + 1}
	x := &mixer{}
	for range 2000 {
		values = append(values, int64(x.next()), -int64(x.any()>>1))
	}
	for _, m := range edges() {
		for _, v := range values {
			if got := word.Lift(v, m); got != modulo(big.NewInt(v), m) {
				t.Fatal(v, m, got)
			}
		}
	}
}

func TestLiftOfTheLeast(t *testing.T) {
	for m, want := range map[uint64]uint64{0: 0, 1: 0, 2: 0, 3: 1, 10: 2, 1 << 62: 0, 1 << 63: 0, 1<<63 + 1: 1, most: 1<<63 - 1} {
		if got := word.Lift(math.MinInt64, m); got != want {
			t.Error(m, got, want)
		}
	}
}

func TestSumsAndProductsGoTogether(t *testing.T) {
	x := &mixer{}
	forTriples(func(a, b, m uint64) {
		c := x.any()
		if word.Add(a, b, m) != word.Add(b, a, m) || word.Mul(a, b, m) != word.Mul(b, a, m) {
			t.Fatal("either way round", a, b, m)
		}
		if word.Add(word.Add(a, b, m), c, m) != word.Add(a, word.Add(b, c, m), m) {
			t.Fatal("three in a sum", a, b, c, m)
		}
		if word.Mul(word.Mul(a, b, m), c, m) != word.Mul(a, word.Mul(b, c, m), m) {
			t.Fatal("three in a product", a, b, c, m)
		}
		if word.Mul(a, word.Add(b, c, m), m) != word.Add(word.Mul(a, b, m), word.Mul(a, c, m), m) {
			t.Fatal("a sum multiplied", a, b, c, m)
		}
		if m > 0 && (word.Add(word.Sub(a, b, m), b, m) != a%m || word.Sub(a, b, m) != word.Add(a, word.Sub(0, b, m), m)) {
			t.Fatal("there and back", a, b, m)
		}
	})
}

func TestPowersGoTogether(t *testing.T) {
	x := &mixer{}
	for range 2000 {
		a, b, m := x.any(), x.any(), x.any()
		n, k := x.any()>>32, x.any()>>32
		if word.Pow(a, n+k, m) != word.Mul(word.Pow(a, n, m), word.Pow(a, k, m), m) {
			t.Fatal("a sum above", a, n, k, m)
		}
		if word.Pow(a, n*k, m) != word.Pow(word.Pow(a, n, m), k, m) {
			t.Fatal("a product above", a, n, k, m)
		}
		if word.Pow(word.Mul(a, b, m), n, m) != word.Mul(word.Pow(a, n, m), word.Pow(b, n, m), m) {
			t.Fatal("a product below", a, b, n, m)
		}
		if i, ok := word.Inv(a, m); ok && (word.Mul(a, i, m) != 1 || word.Pow(i, n, m) != inverse(t, word.Pow(a, n, m), m)) {
			t.Fatal("inverses", a, n, m)
		}
	}
}

func inverse(t *testing.T, a, m uint64) uint64 {
	i, ok := word.Inv(a, m)
	if !ok {
		t.Fatal("no inverse", a, m)
	}
	return i
}

func TestCenteredIsLiftedAsItWas(t *testing.T) {
	forTriples(func(a, b, m uint64) {
		if m == 0 || m > 1<<62 {
			return
		}
		if got := word.Lift(word.Center(a, m), m); got != a%m {
			t.Fatal(a, m, got)
		}
		if got := word.Lift(word.Center(b, m), m); got != b%m {
			t.Fatal(b, m, got)
		}
	})
}

func TestExamples(t *testing.T) {
	if high, low := word.Wide(1<<63, 4); high != 2 || low != 0 {
		t.Error(high, low)
	}
	if got := word.Mul(1<<63, 2, most); got != 1 {
		t.Error(got)
	}
	if got, ok := word.Inv(3, 7); got != 5 || !ok {
		t.Error(got, ok)
	}
	if got := word.Center(5, 7); got != -2 {
		t.Error(got)
	}
	if got := word.Center(3, 6); got != 3 {
		t.Error(got)
	}
}

func BenchmarkMul(b *testing.B) {
	x := uint64(3)
	for b.Loop() {
		x = word.Mul(x, x|1<<59, 1<<60-93)
	}
}
