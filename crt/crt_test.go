package crt_test

import (
	"math"
	"math/big"
	"slices"
	"testing"

	"arras/api"
	"arras/crt"
)

const (
	most    = math.MaxUint64
	longest = 24
)

// mixer tells words that look like chance, the same ones each time.
type mixer struct{ state uint64 }

func (x *mixer) next() uint64 {
	x.state += 0x9e3779b97f4a7c15
	z := x.state
	z = (z ^ z>>30) * 0xbf58476d1ce4e5b9
	z = (z ^ z>>27) * 0x94d049bb133111eb
	return z ^ z>>31
}

// residues are numbers below the primes of a row, some of them 0 and the greatest.
func (x *mixer) residues(row []uint64) []uint64 {
	var list []uint64
	for _, q := range row {
		switch x.next() % 8 {
		case 0:
			list = append(list, 0)
		case 1:
			list = append(list, q-1)
		default:
			list = append(list, x.next()%q)
		}
	}
	return list
}

// whole is a whole number of at most so many words, last ones that are 0 among them.
func (x *mixer) whole(words int) api.Int {
	var size api.Nat
	for range x.next() % uint64(words+1) {
		size = append(size, []uint64{0, 1, most, x.next(), x.next()}[x.next()%5])
	}
	return api.Int{Neg: x.next()%2 == 0, Abs: size}
}

// An independent reckoning, by math/big.

func word(w uint64) *big.Int { return new(big.Int).SetUint64(w) }

func isPrime(n uint64) bool { return word(n).ProbablyPrime(0) }

func productOf(row []uint64) *big.Int {
	product := big.NewInt(1)
	for _, q := range row {
		product.Mul(product, word(q))
	}
	return product
}

func sizeOf(a api.Nat) *big.Int {
	v := new(big.Int)
	for _, w := range slices.Backward(a) {
		v.Lsh(v, 64)
		v.Or(v, word(w))
	}
	return v
}

func valueOf(a api.Int) *big.Int {
	v := sizeOf(a.Abs)
	if a.Neg {
		v.Neg(v)
	}
	return v
}

// told is a number as it should be told.
func told(v *big.Int) api.Int {
	var size api.Nat
	for left := new(big.Int).Abs(v); left.Sign() > 0; left.Rsh(left, 64) {
		size = append(size, new(big.Int).And(left, word(most)).Uint64())
	}
	return api.Int{Neg: v.Sign() < 0, Abs: size}
}

func residuesOf(v *big.Int, row []uint64) []uint64 {
	var list []uint64
	for _, q := range row {
		list = append(list, new(big.Int).Mod(v, word(q)).Uint64())
	}
	return list
}

// isCentered asks whether a number is from -(Q - 1)/2 to (Q - 1)/2: its double is less than Q in size.
func isCentered(v *big.Int, row []uint64) bool {
	return new(big.Int).Lsh(new(big.Int).Abs(v), 1).Cmp(productOf(row)) < 0
}

// greatest is (Q - 1)/2.
func greatest(row []uint64) *big.Int {
	return new(big.Int).Rsh(productOf(row), 1)
}

func leastPrimes(count int) []uint64 {
	var list []uint64
	for q := uint64(3); len(list) < count; q += 2 {
		if isPrime(q) {
			list = append(list, q)
		}
	}
	return list
}

// greatestPrimes are the greatest ones below 2^61, falling: the first is 2^61 - 1.
func greatestPrimes(count int) []uint64 {
	var list []uint64
	for q := uint64(1<<61 - 1); len(list) < count; q -= 2 {
		if isPrime(q) {
			list = append(list, q)
		}
	}
	return list
}

// mixedPrimes are small ones and great ones by turns, in no order of size.
func mixedPrimes(count int) []uint64 {
	small, great := leastPrimes(count), greatestPrimes(count)
	list := make([]uint64, count)
	for i := range list {
		list[i] = great[i]
		if i%2 == 1 {
			list[i] = small[count-i-1]
		}
	}
	return list
}

// rows are of one prime, of some and of as many as may be: the least, the greatest, and both.
func rows() [][]uint64 {
	list := [][]uint64{{3}, {5, 7}, {7, 5}, {3, 5}, {193, 97}, {65537, 3, 257}}
	for _, primes := range [][]uint64{leastPrimes(longest), greatestPrimes(longest), mixedPrimes(longest)} {
		for _, count := range []int{1, 2, 3, 8, 23, longest} {
			list = append(list, primes[:count])
		}
	}
	return list
}

// centered are numbers of a row at both ends, about 0, about words' ends as far as they go, and mixed ones.
func centered(row []uint64) []*big.Int {
	end := greatest(row)
	list := []*big.Int{big.NewInt(0), big.NewInt(1), end, new(big.Int).Sub(end, big.NewInt(1)), new(big.Int).Rsh(end, 1)}
	for place := range row {
		ahead := productOf(row[:place])
		list = append(list, ahead, new(big.Int).Sub(ahead, big.NewInt(1)))
	}
	for _, shift := range []uint{63, 64, 65, 128, 640} {
		power := new(big.Int).Lsh(big.NewInt(1), shift)
		list = append(list, power, new(big.Int).Sub(power, big.NewInt(1)))
	}
	x := &mixer{state: row[0]}
	for range 20 {
		list = append(list, new(big.Int).Rem(valueOf(x.whole(len(row)+1)), new(big.Int).Add(end, big.NewInt(1))))
	}
	for _, v := range slices.Clone(list) {
		list = append(list, new(big.Int).Neg(v))
	}
	return slices.DeleteFunc(list, func(v *big.Int) bool { return !isCentered(v, row) })
}

func same(a, b api.Int) bool { return a.Neg == b.Neg && slices.Equal(a.Abs, b.Abs) }

func rightWhole(t *testing.T, got api.Int, err api.Errno, want *big.Int) {
	t.Helper()
	if err != api.OK || !same(got, told(want)) {
		t.Fatal(got, err, want)
	}
}

func rightList(t *testing.T, got []uint64, err api.Errno, want []uint64) {
	t.Helper()
	if err != api.OK || !slices.Equal(got, want) {
		t.Fatal(got, err, want)
	}
}

func TestProduct(t *testing.T) {
	x := &mixer{}
	lists := [][]uint64{nil, {}, {0}, {1}, {2}, {most}, {1, 1, 1}, {0, 0}, {most, most}, {most, 0, most}, {0, most}, {most, most, 0}, {1 << 63, 2}, {1 << 32, 1 << 32}, {5, 5}, {4, 6}, slices.Repeat([]uint64{most}, 100), slices.Repeat([]uint64{1 << 63}, 65)}
	for range 300 {
		var list []uint64
		for range x.next() % 40 {
			list = append(list, x.next()>>(x.next()%64))
		}
		lists = append(lists, list)
	}
	for _, list := range append(lists, rows()...) {
		want := told(productOf(list))
		if got := crt.Product(list); !slices.Equal(got, want.Abs) {
			t.Fatal(list, got, want)
		}
	}
}

func TestWhole(t *testing.T) {
	for _, row := range rows() {
		for _, v := range centered(row) {
			got, err := crt.Whole(residuesOf(v, row), row)
			rightWhole(t, got, err, v)
		}
	}
}

// The greatest number and the next one, which is the least: both ends have sizes that are the same.
func TestWholeAtBothEnds(t *testing.T) {
	for _, row := range rows() {
		end := greatest(row)
		got, err := crt.Whole(residuesOf(end, row), row)
		rightWhole(t, got, err, end)
		next := new(big.Int).Add(end, big.NewInt(1))
		got, err = crt.Whole(residuesOf(next, row), row)
		rightWhole(t, got, err, new(big.Int).Neg(end))
		got, err = crt.Whole(residuesOf(big.NewInt(-1), row), row)
		rightWhole(t, got, err, big.NewInt(-1))
		got, err = crt.Whole(make([]uint64, len(row)), row)
		rightWhole(t, got, err, new(big.Int))
	}
}

// All numbers of small rows.
func TestAllOfSmallRows(t *testing.T) {
	for _, row := range [][]uint64{{3}, {5}, {3, 5}, {5, 3}, {5, 7}, {7, 13}, {13, 3, 5}, {3, 5, 7, 11}, {11, 7, 5, 3}, {97, 193}} {
		end := greatest(row).Int64()
		for v := -end; v <= end; v++ {
			r, err := crt.Residues(told(big.NewInt(v)), row)
			rightList(t, r, err, residuesOf(big.NewInt(v), row))
			got, err := crt.Whole(r, row)
			rightWhole(t, got, err, big.NewInt(v))
		}
	}
}

func TestResidues(t *testing.T) {
	x := &mixer{}
	list := []api.Int{{}, {Neg: true}, {Abs: api.Nat{0}}, {Neg: true, Abs: api.Nat{0, 0}}, {Abs: api.Nat{1}}, {Neg: true, Abs: api.Nat{1}}, {Neg: true, Abs: api.Nat{1, 0, 0}}, {Abs: api.Nat{most}}, {Neg: true, Abs: api.Nat{most, most}}, {Neg: true, Abs: api.Nat{0, 1}}}
	for range 60 {
		list = append(list, x.whole(40))
	}
	for _, row := range rows() {
		multiple := told(productOf(row))
		for _, v := range append(list, multiple, api.Int{Neg: true, Abs: multiple.Abs}) {
			got, err := crt.Residues(v, row)
			rightList(t, got, err, residuesOf(valueOf(v), row))
		}
	}
}

// P6.2: a centered number comes back from its residues, and residues from their number.
func TestThereAndBack(t *testing.T) {
	for _, row := range rows() {
		for _, v := range centered(row) {
			r, err := crt.Residues(told(v), row)
			if err != api.OK {
				t.Fatal(row, v, err)
			}
			got, err := crt.Whole(r, row)
			rightWhole(t, got, err, v)
		}
		x := &mixer{state: uint64(len(row))}
		for range 30 {
			r := x.residues(row)
			v, err := crt.Whole(r, row)
			if err != api.OK || !isCentered(valueOf(v), row) {
				t.Fatal(row, v, err)
			}
			again, err := crt.Residues(v, row)
			rightList(t, again, err, r)
		}
	}
}

// A number beyond the ends comes back as the centered one that has its residues.
func TestBeyondTheEnds(t *testing.T) {
	x := &mixer{}
	for _, row := range rows() {
		for range 10 {
			v := x.whole(30)
			r, _ := crt.Residues(v, row)
			got, err := crt.Whole(r, row)
			difference := new(big.Int).Sub(valueOf(v), valueOf(got))
			if err != api.OK || !isCentered(valueOf(got), row) || difference.Rem(difference, productOf(row)).Sign() != 0 {
				t.Fatal(row, v, got, err)
			}
		}
	}
}

// lists are residues of so many places.
func lists(x *mixer, row []uint64, places int) api.Poly {
	a := api.Poly{R: make([][]uint64, len(row))}
	for range places {
		for i, r := range x.residues(row) {
			a.R[i] = append(a.R[i], r)
		}
	}
	return a
}

func TestWholes(t *testing.T) {
	x := &mixer{}
	for _, row := range rows() {
		for _, places := range []int{1, 2, 3, 8, 17} {
			a := lists(x, row, places)
			got, err := crt.Wholes(a, row)
			if err != api.OK || len(got) != places {
				t.Fatal(row, places, len(got), err)
			}
			for i := range places {
				var r []uint64
				for place := range row {
					r = append(r, a.R[place][i])
				}
				if !isCentered(valueOf(got[i]), row) || !slices.Equal(residuesOf(valueOf(got[i]), row), r) || !same(got[i], told(valueOf(got[i]))) {
					t.Fatal(row, places, i, got[i], r)
				}
			}
		}
	}
}

func TestElement(t *testing.T) {
	x := &mixer{}
	for _, row := range rows() {
		for _, places := range []int{1, 2, 3, 8, 17} {
			var v []api.Int
			for range places {
				v = append(v, x.whole(30))
			}
			got, err := crt.Element(v, row)
			if err != api.OK || len(got.R) != len(row) {
				t.Fatal(row, places, len(got.R), err)
			}
			for place := range row {
				var want []uint64
				for i := range v {
					want = append(want, residuesOf(valueOf(v[i]), row)[place])
				}
				rightList(t, got.R[place], err, want)
			}
		}
	}
}

func TestElementsThereAndBack(t *testing.T) {
	for _, row := range rows() {
		var v []api.Int
		for _, number := range centered(row) {
			v = append(v, told(number))
		}
		a, err := crt.Element(v, row)
		if err != api.OK {
			t.Fatal(row, err)
		}
		back, err := crt.Wholes(a, row)
		if err != api.OK || !slices.EqualFunc(back, v, same) {
			t.Fatal(row, back, err, v)
		}
		again, err := crt.Element(back, row)
		if err != api.OK || !slices.EqualFunc(again.R, a.R, slices.Equal[[]uint64]) {
			t.Fatal(row, err)
		}
	}
}

// As many places as polynomials have coefficients, and more: the chapter names no most.
func TestManyPlaces(t *testing.T) {
	for _, row := range [][]uint64{greatestPrimes(3), mixedPrimes(longest)} {
		a := lists(&mixer{}, row, api.MaxN+3)
		v, err := crt.Wholes(a, row)
		if err != api.OK || len(v) != api.MaxN+3 {
			t.Fatal(len(v), err)
		}
		back, err := crt.Element(v, row)
		if err != api.OK || !slices.EqualFunc(back.R, a.R, slices.Equal[[]uint64]) {
			t.Fatal(err)
		}
	}
}

// Lists that all have no places have no numbers, and nothing that is wrong.
func TestNoPlaces(t *testing.T) {
	for _, row := range rows() {
		for _, list := range [][]uint64{nil, {}} {
			v, err := crt.Wholes(api.Poly{R: slices.Repeat([][]uint64{list}, len(row))}, row)
			if err != api.OK || len(v) != 0 {
				t.Error(row, v, err)
			}
		}
	}
}

func TestExamples(t *testing.T) {
	row := []uint64{5, 7}
	v, err := crt.Whole([]uint64{2, 3}, row)
	rightWhole(t, v, err, big.NewInt(17))
	v, err = crt.Whole([]uint64{4, 6}, row)
	rightWhole(t, v, err, big.NewInt(-1))
	r, err := crt.Residues(api.Int{Neg: true, Abs: api.Nat{1}}, row)
	rightList(t, r, err, []uint64{4, 6})
}

func BenchmarkWhole(b *testing.B) {
	row := greatestPrimes(longest)
	r := (&mixer{}).residues(row)
	for b.Loop() {
		crt.Whole(r, row)
	}
}

func BenchmarkWholes(b *testing.B) {
	row := greatestPrimes(longest)
	a := lists(&mixer{}, row, api.MaxN)
	for b.Loop() {
		crt.Wholes(a, row)
	}
}

func BenchmarkElement(b *testing.B) {
	row := greatestPrimes(longest)
	v, _ := crt.Wholes(lists(&mixer{}, row, api.MaxN), row)
	for b.Loop() {
		crt.Element(v, row)
	}
}
