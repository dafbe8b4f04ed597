package nat_test

import (
	"math"
	"math/big"
	"slices"
	"testing"

	"arras/api"
	"arras/nat"
)

const most = math.MaxUint64

// mixer tells words that look like chance, the same ones each time.
type mixer struct{ state uint64 }

func (x *mixer) next() uint64 {
	x.state += 0x9e3779b97f4a7c15
	z := x.state
	z = (z ^ z>>30) * 0xbf58476d1ce4e5b9
	z = (z ^ z>>27) * 0x94d049bb133111eb
	return z ^ z>>31
}

// edgeWords are the words at which halves and carries change.
func edgeWords() []uint64 {
	return []uint64{0, 1, 1<<32 - 1, 1 << 32, 1 << 63, most - 1, most}
}

// nat is a natural of at most so many words: half of them at the edges, and last ones that are 0 among them.
func (x *mixer) nat(words int) api.Nat {
	var a api.Nat
	for range x.next() % uint64(words+1) {
		w := x.next()
		if x.next()%2 == 0 {
			w = edgeWords()[w%uint64(len(edgeWords()))]
		}
		a = append(a, w)
	}
	return a
}

// edgeNats are all naturals of at most three edge words, 0 written in all ways and last words 0 among them.
func edgeNats() []api.Nat {
	all := []api.Nat{nil}
	longest := all
	for range 3 {
		var longer []api.Nat
		for _, a := range longest {
			for _, w := range edgeWords() {
				longer = append(longer, append(slices.Clone(a), w))
			}
		}
		all = append(all, longer...)
		longest = longer
	}
	return all
}

// forPairs hands on pairs of naturals at the edges, and mixed ones that are longer.
func forPairs(visit func(a, b api.Nat)) {
	all := edgeNats()
	for _, a := range all {
		for _, b := range all {
			visit(a, b)
		}
	}
	x := &mixer{}
	for range 30000 {
		visit(x.nat(9), x.nat(5))
		visit(x.nat(3), x.nat(9))
	}
}

func value(a api.Nat) *big.Int {
	v := new(big.Int)
	for _, w := range slices.Backward(a) {
		v.Lsh(v, 64)
		v.Or(v, new(big.Int).SetUint64(w))
	}
	return v
}

func whole(a api.Int) *big.Int {
	v := value(a.Abs)
	if a.Neg {
		v.Neg(v)
	}
	return v
}

// isNat asks whether a natural is that value, told as it should be.
func isNat(a api.Nat, want *big.Int) bool {
	return (len(a) == 0 || a[len(a)-1] != 0) && value(a).Cmp(want) == 0
}

// isInt asks whether a whole number is that value, told as it should be.
func isInt(a api.Int, want *big.Int) bool {
	return a.Neg == (want.Sign() < 0) && isNat(a.Abs, new(big.Int).Abs(want))
}

func TestOf(t *testing.T) {
	for _, w := range edgeWords() {
		if got := nat.Of(w); !isNat(got, new(big.Int).SetUint64(w)) {
			t.Error(w, got)
		}
	}
}

func TestBits(t *testing.T) {
	for _, a := range edgeNats() {
		if got := nat.Bits(a); got != value(a).BitLen() {
			t.Error(a, got)
		}
	}
	for i := range 64 {
		if nat.Bits(api.Nat{1 << i}) != i+1 || nat.Bits(api.Nat{most, 1<<i | 1, 0}) != i+65 {
			t.Error(i)
		}
	}
}

func TestCmp(t *testing.T) {
	forPairs(func(a, b api.Nat) {
		if got := nat.Cmp(a, b); got != value(a).Cmp(value(b)) {
			t.Fatal(a, b, got)
		}
		if nat.Cmp(a, append(slices.Clone(a), 0, 0)) != 0 {
			t.Fatal("last words that are 0", a)
		}
	})
}

func TestAddSubMul(t *testing.T) {
	forPairs(func(a, b api.Nat) {
		x, y := value(a), value(b)
		if got := nat.Add(a, b); !isNat(got, x.Add(x, y)) {
			t.Fatal("Add", a, b, got)
		}
		if got := nat.Mul(a, b); !isNat(got, x.Mul(value(a), y)) {
			t.Fatal("Mul", a, b, got)
		}
		got, err := nat.Sub(a, b)
		if x.Sub(value(a), y); x.Sign() < 0 {
			if err != api.ErrRange || len(got) != 0 {
				t.Fatal("Sub", a, b, got, err)
			}
		} else if err != api.OK || !isNat(got, x) {
			t.Fatal("Sub", a, b, got, err)
		}
	})
}

func TestCarriesGoFar(t *testing.T) {
	full := slices.Repeat(api.Nat{most}, 6)
	if got := nat.Add(full, api.Nat{1}); !slices.Equal(got, append(make(api.Nat, 6), 1)) {
		t.Error(got)
	}
	if got, err := nat.Sub(append(make(api.Nat, 6), 1), api.Nat{1}); err != api.OK || !slices.Equal(got, full) {
		t.Error(got, err)
	}
	if got, err := nat.Sub(full, append(full, 0)); err != api.OK || len(got) != 0 {
		t.Error(got, err)
	}
	want := append(append(api.Nat{1}, make(api.Nat, 5)...), append(api.Nat{most - 1}, full[1:]...)...)
	if got := nat.Mul(full, full); !slices.Equal(got, want) {
		t.Error(got)
	}
}

func TestDiv(t *testing.T) {
	check := func(a, b api.Nat) {
		q, r, err := nat.Div(a, b)
		if value(b).Sign() == 0 {
			if err != api.ErrArg || len(q) != 0 || len(r) != 0 {
				t.Fatal(a, b, q, r, err)
			}
			return
		}
		x, y := new(big.Int).QuoRem(value(a), value(b), new(big.Int))
		if err != api.OK || !isNat(q, x) || !isNat(r, y) {
			t.Fatal(a, b, q, r, err)
		}
	}
	forPairs(check)
	// One below, at and above a product, where a guess is most easily wrong.
	x := &mixer{1}
	for range 5000 {
		b := nat.Add(x.nat(5), nat.Of(1))
		a := nat.Mul(x.nat(5), b)
		check(a, b)
		check(nat.Add(a, nat.Of(1)), b)
		if below, err := nat.Sub(a, nat.Of(1)); err == api.OK {
			check(below, b)
		}
	}
}

func TestMod(t *testing.T) {
	x := &mixer{}
	check := func(a api.Nat, w uint64) {
		var want uint64
		if w > 0 {
			want = new(big.Int).Mod(value(a), new(big.Int).SetUint64(w)).Uint64()
		}
		if got := nat.Mod(a, w); got != want {
			t.Fatal(a, w, got, want)
		}
	}
	for _, a := range edgeNats() {
		for _, w := range append(edgeWords(), 2, 3, 7, 10, 1<<31, 1<<33+1, 1<<63+1<<32-1) {
			check(a, w)
		}
	}
	for range 20000 {
		check(x.nat(9), x.next()>>(x.next()%65))
	}
}

// forInts hands on pairs of whole numbers, with a 0 that is marked as below 0 among them.
func forInts(visit func(a, b api.Int)) {
	bools := []bool{false, true}
	each := func(a, b api.Nat) {
		for _, x := range bools {
			for _, y := range bools {
				visit(api.Int{Neg: x, Abs: a}, api.Int{Neg: y, Abs: b})
			}
		}
	}
	small := []api.Nat{nil, {0}, {0, 0}, {1}, {2}, {3, 0}, {1 << 63}, {most}, {0, 1}, {1, 1}, {most, most, 0}}
	for _, a := range small {
		for _, b := range small {
			each(a, b)
		}
	}
	x := &mixer{}
	for range 5000 {
		each(x.nat(6), x.nat(4))
	}
}

func TestSumAndTimes(t *testing.T) {
	forInts(func(a, b api.Int) {
		x, y := whole(a), whole(b)
		if got := nat.Sum(a, b); !isInt(got, new(big.Int).Add(x, y)) {
			t.Fatal("Sum", a, b, got)
		}
		if got := nat.Times(a, b); !isInt(got, new(big.Int).Mul(x, y)) {
			t.Fatal("Times", a, b, got)
		}
	})
}

// nearest is 2a + b by 2b, rounded down.
func nearest(a, b *big.Int) *big.Int {
	up := new(big.Int).Lsh(a, 1)
	up.Add(up, b)
	return up.Div(up, new(big.Int).Lsh(b, 1))
}

func checkNear(t *testing.T, a api.Int, b api.Nat) {
	t.Helper()
	got, err := nat.Near(a, b)
	if value(b).Sign() == 0 {
		if err != api.ErrArg || got.Neg || len(got.Abs) != 0 {
			t.Fatal(a, b, got, err)
		}
		return
	}
	if err != api.OK || !isInt(got, nearest(whole(a), value(b))) {
		t.Fatal(a, b, got, err)
	}
}

func TestNear(t *testing.T) {
	forInts(func(a, b api.Int) { checkNear(t, a, b.Abs) })
	for b := range uint64(12) {
		for a := range uint64(40) {
			checkNear(t, api.Int{Abs: api.Nat{a}}, api.Nat{b})
			checkNear(t, api.Int{Neg: true, Abs: api.Nat{a, 0}}, api.Nat{b, 0, 0})
		}
	}
}

func TestNearOfHalves(t *testing.T) {
	x := &mixer{}
	for range 2000 {
		half := nat.Add(x.nat(4), nat.Of(1))
		b := nat.Add(half, half)
		a := nat.Add(nat.Mul(x.nat(4), b), half)
		below, _ := nat.Sub(a, nat.Of(1))
		for _, size := range []api.Nat{a, below, nat.Add(a, nat.Of(1))} {
			checkNear(t, api.Int{Abs: size}, b)
			checkNear(t, api.Int{Neg: true, Abs: size}, append(b, 0))
		}
	}
	for _, row := range []struct {
		neg       bool
		a, b      uint64
		wantBelow bool
		want      uint64
	}{
		{false, 1, 2, false, 1}, {true, 1, 2, false, 0}, {false, 3, 2, false, 2}, {true, 3, 2, true, 1},
		{false, 5, 10, false, 1}, {true, 5, 10, false, 0}, {true, 6, 10, true, 1}, {true, 4, 10, false, 0}, {true, 0, 10, false, 0},
	} {
		got, err := nat.Near(api.Int{Neg: row.neg, Abs: api.Nat{row.a}}, api.Nat{row.b})
		if err != api.OK || got.Neg != row.wantBelow || !isNat(got.Abs, new(big.Int).SetUint64(row.want)) {
			t.Error(row, got, err)
		}
	}
}

func TestByNothing(t *testing.T) {
	for _, zero := range []api.Nat{nil, {}, {0}, {0, 0, 0}} {
		for _, a := range []api.Nat{nil, {0}, {5}, {5, 6}} {
			if q, r, err := nat.Div(a, zero); err != api.ErrArg || len(q) != 0 || len(r) != 0 {
				t.Error("Div", a, zero, q, r, err)
			}
			for _, neg := range []bool{false, true} {
				if got, err := nat.Near(api.Int{Neg: neg, Abs: a}, zero); err != api.ErrArg || got.Neg || len(got.Abs) != 0 {
					t.Error("Near", a, zero, got, err)
				}
			}
			if got := nat.Mod(a, 0); got != 0 {
				t.Error("Mod", a, got)
			}
		}
	}
}

func TestNaturalsGoTogether(t *testing.T) {
	x := &mixer{}
	for range 5000 {
		a, b, c := x.nat(6), x.nat(6), x.nat(6)
		if nat.Cmp(nat.Add(a, b), nat.Add(b, a)) != 0 || nat.Cmp(nat.Mul(a, b), nat.Mul(b, a)) != 0 {
			t.Fatal("either way round", a, b)
		}
		if nat.Cmp(nat.Add(nat.Add(a, b), c), nat.Add(a, nat.Add(b, c))) != 0 || nat.Cmp(nat.Mul(nat.Mul(a, b), c), nat.Mul(a, nat.Mul(b, c))) != 0 {
			t.Fatal("three", a, b, c)
		}
		if nat.Cmp(nat.Mul(a, nat.Add(b, c)), nat.Add(nat.Mul(a, b), nat.Mul(a, c))) != 0 {
			t.Fatal("a sum multiplied", a, b, c)
		}
		if back, err := nat.Sub(nat.Add(a, b), b); err != api.OK || nat.Cmp(back, a) != 0 {
			t.Fatal("a sum less one of it", a, b)
		}
		q, r, err := nat.Div(a, b)
		if err == api.OK && (nat.Cmp(nat.Add(nat.Mul(q, b), r), a) != 0 || nat.Cmp(r, b) >= 0) {
			t.Fatal("quotient and rest", a, b, q, r)
		}
		w := x.next()
		if _, r, _ := nat.Div(a, nat.Of(w)); nat.Cmp(r, nat.Of(nat.Mod(a, w))) != 0 {
			t.Fatal("both rests", a, w)
		}
	}
}

func same(a, b api.Int) bool {
	return a.Neg == b.Neg && nat.Cmp(a.Abs, b.Abs) == 0
}

func TestWholeNumbersGoTogether(t *testing.T) {
	x := &mixer{}
	each := func(a, b api.Int) {
		c := api.Int{Neg: x.next()%2 == 0, Abs: x.nat(3)}
		if !same(nat.Sum(a, b), nat.Sum(b, a)) || !same(nat.Times(a, b), nat.Times(b, a)) {
			t.Fatal("either way round", a, b)
		}
		if !same(nat.Times(c, nat.Sum(a, b)), nat.Sum(nat.Times(c, a), nat.Times(c, b))) {
			t.Fatal("a sum multiplied", a, b, c)
		}
		if got := nat.Sum(a, api.Int{Neg: !a.Neg, Abs: a.Abs}); got.Neg || len(got.Abs) != 0 {
			t.Fatal("a number and what it lacks to 0", a, got)
		}
		near, err := nat.Near(nat.Times(a, b), b.Abs)
		if err == api.OK && !same(near, nat.Times(a, api.Int{Neg: b.Neg, Abs: nat.Of(1)})) {
			t.Fatal("a product by one of it", a, b, near)
		}
	}
	forInts(each)
}

func TestExamples(t *testing.T) {
	a := nat.Add(api.Nat{most}, api.Nat{1})
	if !slices.Equal(a, api.Nat{0, 1}) {
		t.Error(a)
	}
	q, r, err := nat.Div(a, api.Nat{10})
	if err != api.OK || !slices.Equal(q, api.Nat{1844674407370955161}) || !slices.Equal(r, api.Nat{6}) {
		t.Error(q, r, err)
	}
	if got, err := nat.Near(api.Int{Neg: true, Abs: api.Nat{3}}, api.Nat{2}); err != api.OK || !got.Neg || !slices.Equal(got.Abs, api.Nat{1}) {
		t.Error(got, err)
	}
	if got, err := nat.Near(api.Int{Abs: api.Nat{3}}, api.Nat{2}); err != api.OK || got.Neg || !slices.Equal(got.Abs, api.Nat{2}) {
		t.Error(got, err)
	}
}

func BenchmarkNear(b *testing.B) {
	x := &mixer{}
	var up, down api.Nat
	for range 17 {
		up = append(up, x.next())
	}
	for range 8 {
		down = append(down, x.next())
	}
	for b.Loop() {
		nat.Near(api.Int{Abs: up}, down)
	}
}
