package batch_test

import (
	"math"
	"math/big"
	"slices"
	"strconv"
	"testing"

	"arras/api"
	"arras/batch"
	"arras/ntt"
	"arras/ring"
)

// mixer tells words that look like chance, the same ones each time.
type mixer struct{ state uint64 }

func (x *mixer) next() uint64 {
	x.state += 0x9e3779b97f4a7c15
	z := x.state
	z = (z ^ z>>30) * 0xbf58476d1ce4e5b9
	z = (z ^ z>>27) * 0x94d049bb133111eb
	return z ^ z>>31
}

// row is numbers of all sizes, some of them below 0.
func (x *mixer) row(count int) []int {
	row := make([]int, count)
	for i := range row {
		row[i] = int(int64(x.next()) >> (x.next() % 64))
	}
	return row
}

// polynomial is numbers below an end, some of them 0 and the greatest.
func (x *mixer) polynomial(count int, end uint64) []uint64 {
	list := make([]uint64, count)
	for i := range list {
		switch x.next() % 8 {
		case 0:
		case 1:
			list[i] = end - 1
		default:
			list[i] = x.next() % end
		}
	}
	return list
}

// An independent reckoning: values one by one, at powers of a root that is found by trying. All numbers are below 2^30, so products are within a word.

func isPrime(n uint64) bool { return new(big.Int).SetUint64(n).ProbablyPrime(0) }

func power(a, n, m uint64) uint64 {
	out := new(big.Int).Exp(new(big.Int).SetUint64(a), new(big.Int).SetUint64(n), new(big.Int).SetUint64(m))
	return out.Uint64()
}

// rootOf is the least number whose power n is -1 modulo a prime that is 1 modulo 2n.
func rootOf(n int, q uint64) uint64 {
	for a := uint64(2); ; a++ {
		root := power(a, (q-1)/uint64(2*n), q)
		if power(root, uint64(n), q) != q-1 {
			continue
		}
		least := root
		for k := 3; k < 2*n; k += 2 {
			least = min(least, power(root, uint64(k), q))
		}
		return least
	}
}

// valueAt is a polynomial's value.
func valueAt(a []uint64, x, q uint64) uint64 {
	var value uint64
	for _, c := range slices.Backward(a) {
		value = (value*x + c) % q
	}
	return value
}

// modulo is from 0 to q - 1.
func modulo(v int, q uint64) uint64 {
	rest := new(big.Int).Mod(big.NewInt(int64(v)), new(big.Int).SetUint64(q))
	return rest.Uint64()
}

// centered is least in size; q is odd, so there are never two.
func centered(v int, q uint64) int {
	rest := int(modulo(v, q))
	if 2*rest > int(q) {
		return rest - int(q)
	}
	return rest
}

// frame is what the chapter says of some parameters: at which numbers the slots have their values.
type frame struct {
	params         api.Params
	slots, beneath []uint64
}

func frameOf(p api.Params) frame {
	f := frame{params: p}
	root := rootOf(p.N, p.T)
	around := uint64(2 * p.N)
	for i := range p.N / 2 {
		exponent := power(3, uint64(i), around)
		f.slots = append(f.slots, power(root, exponent, p.T))
		f.beneath = append(f.beneath, power(root, around-exponent, p.T))
	}
	return f
}

// packs asks whether a polynomial is what a row is packed as: N values tell N coefficients.
func (f frame) packs(a []uint64, v []int) bool {
	if len(a) != f.params.N || len(v) > f.params.N/2 {
		return false
	}
	for i := range f.slots {
		var want uint64
		if i < len(v) {
			want = modulo(v[i], f.params.T)
		}
		if a[i] >= f.params.T || a[i+len(f.slots)] >= f.params.T || valueAt(a, f.slots[i], f.params.T) != want || valueAt(a, f.beneath[i], f.params.T) != want {
			return false
		}
	}
	return true
}

// unpacked is what a polynomial has in the slots.
func (f frame) unpacked(a []uint64) []int {
	var row []int
	for _, x := range f.slots {
		row = append(row, centered(int(valueAt(a, x, f.params.T)), f.params.T))
	}
	return row
}

// friendly is a prime that is 1 modulo 2n: the least from an end on, or the greatest below it.
func friendly(n int, end uint64, isAbove bool) uint64 {
	step := uint64(2 * n)
	q := (end-2)/step*step + 1
	if isAbove {
		q += step
	}
	for !isPrime(q) {
		if isAbove {
			q += step
		} else {
			q -= step
		}
	}
	return q
}

// paramsOf are parameters with a T, and one prime.
func paramsOf(n int, plain uint64) api.Params {
	q := friendly(n, 3, true)
	if q == plain {
		q = friendly(n, q+1, true)
	}
	return api.Params{N: n, T: plain, Q: []uint64{q}, Width: 2}
}

// small are parameters of few coefficients, T the least, some in between, and just below MaxT.
func small() []api.Params {
	var list []api.Params
	for n := 8; n <= 64; n *= 2 {
		for _, plain := range []uint64{friendly(n, 3, true), friendly(n, 1000, true), friendly(n, 1<<20, false), friendly(n, api.MaxT, false)} {
			list = append(list, paramsOf(n, plain))
		}
	}
	return list
}

// great are parameters of many coefficients.
func great() []api.Params {
	var list []api.Params
	for _, n := range []int{128, 256, 1024, 2048, api.MaxN} {
		list = append(list, paramsOf(n, friendly(n, api.MaxT, false)))
	}
	return append(list, paramsOf(1024, 12289), paramsOf(api.MaxN, 40961))
}

func example() api.Params {
	return api.Params{N: 8, T: 17, Q: []uint64{97, 193}, Width: 2}
}

func name(p api.Params) string {
	return "N " + strconv.Itoa(p.N) + " T " + strconv.FormatUint(p.T, 10)
}

func batchOf(t *testing.T, p api.Params) *batch.Batch {
	t.Helper()
	b, err := batch.New(p)
	if err != api.OK || b == nil {
		t.Fatal(name(p), err)
	}
	return b
}

func packed(t *testing.T, b *batch.Batch, v []int) []uint64 {
	t.Helper()
	a, err := b.Pack(v)
	if err != api.OK {
		t.Fatal(len(v), err)
	}
	return a
}

func rightRow(t *testing.T, what string, b *batch.Batch, a []uint64, want []int) {
	t.Helper()
	if got, err := b.Unpack(a); err != api.OK || !slices.Equal(got, want) {
		t.Error(what, got, err, want)
	}
}

// rows are of no numbers up to as many as there are slots: noughts, ones, both ends of int, numbers about T, and mixed ones.
func rows(p api.Params) [][]int {
	slots, plain := p.N/2, int(p.T)
	list := [][]int{nil, {}, {1}, {0, 1}, {-1}, slices.Repeat([]int{1}, slots), slices.Repeat([]int{-1}, slots), make([]int, slots)}
	edges := []int{math.MinInt, math.MaxInt, math.MinInt + 1, math.MaxInt - 1, plain, plain - 1, plain + 1, -plain, -plain - 1, -plain + 1, plain / 2, plain/2 + 1, -plain / 2, -plain/2 - 1, 5 * plain, -7 * plain, 1 << 32, -1 << 32, 1 << 31, 1 << 62}
	for from := 0; from < len(edges); from += slots {
		list = append(list, edges[from:min(from+slots, len(edges))])
	}
	for i := range slots {
		one := make([]int, i+1)
		one[i] = 1 + i
		list = append(list, one)
	}
	x := &mixer{state: p.T}
	for _, count := range []int{1, 2, 3, slots / 2, slots - 1, slots} {
		list = append(list, x.row(count))
	}
	return list
}

// filled is a row, centered, with a number for each slot.
func filled(p api.Params, v []int) []int {
	row := make([]int, p.N/2)
	for i, number := range v {
		row[i] = centered(number, p.T)
	}
	return row
}

func TestExamples(t *testing.T) {
	b := batchOf(t, example())
	if one, back := b.Power(1), b.Power(-1); one != 3 || back != 11 {
		t.Error(one, back)
	}
	if a, err := b.Pack([]int{1, 1, 1, 1}); err != api.OK || !slices.Equal(a, []uint64{1, 0, 0, 0, 0, 0, 0, 0}) {
		t.Error(a, err)
	}
}

// With N 8 and T 17 the root is 3, and its powers are small enough for a pen.
func TestByHand(t *testing.T) {
	b := batchOf(t, example())
	// X has in the slots 3, 3^3, 3^9, 3^27: 3, 10, 14, 7; beneath them stands the inverse of each.
	rightRow(t, "X", b, []uint64{0, 1, 0, 0, 0, 0, 0, 0}, []int{3, -7, -3, 7})
	rightRow(t, "X^7", b, []uint64{0, 0, 0, 0, 0, 0, 0, 1}, []int{-6, 5, 6, -5})
	// X - X^7 is each number and its inverse, together: the same beneath as in the slot.
	if a := packed(t, b, []int{3 + 6, -7 - 5, -3 - 6, 7 + 5}); !slices.Equal(a, []uint64{0, 1, 0, 0, 0, 0, 0, 16}) {
		t.Error(a)
	}
}

func TestPack(t *testing.T) {
	for _, p := range small() {
		b, f := batchOf(t, p), frameOf(p)
		for _, v := range rows(p) {
			if a := packed(t, b, v); !f.packs(a, v) {
				t.Error(name(p), v, a)
			}
		}
	}
}

func TestUnpack(t *testing.T) {
	x := &mixer{state: 1}
	for _, p := range small() {
		b, f := batchOf(t, p), frameOf(p)
		for range 20 {
			a := x.polynomial(p.N, p.T)
			rightRow(t, name(p), b, a, f.unpacked(a))
		}
		for i := range p.N {
			a := make([]uint64, p.N)
			a[i] = p.T - 1
			rightRow(t, name(p), b, a, f.unpacked(a))
		}
		rightRow(t, "0", b, make([]uint64, p.N), make([]int, p.N/2))
		greatest := slices.Repeat([]uint64{p.T - 1}, p.N)
		rightRow(t, "all T - 1", b, greatest, f.unpacked(greatest))
	}
}

func TestGreatSizes(t *testing.T) {
	for _, p := range great() {
		b, f := batchOf(t, p), frameOf(p)
		x := &mixer{state: p.T}
		v := x.row(p.N/2 - 1)
		copy(v, []int{math.MinInt, math.MaxInt, -1, int(p.T)})
		if a := packed(t, b, v); !f.packs(a, v) {
			t.Error(name(p))
		}
		a := x.polynomial(p.N, p.T)
		if got, err := b.Unpack(a); err != api.OK || !slices.Equal(got, f.unpacked(a)) {
			t.Error(name(p), err)
		}
	}
}

// A constant has its number in all slots, at the middle of T too: what is unpacked is centered.
func TestCentered(t *testing.T) {
	for _, p := range append(small(), great()...) {
		b := batchOf(t, p)
		middle := p.T / 2
		for c, want := range map[uint64]int{0: 0, 1: 1, p.T - 1: -1, middle: int(middle), middle + 1: -int(middle)} {
			a := make([]uint64, p.N)
			a[0] = c
			rightRow(t, name(p), b, a, slices.Repeat([]int{want}, p.N/2))
		}
	}
}

// What stands beneath the slots isn't told: two polynomials that differ there alone have the same row.
func TestBeneathIsNotTold(t *testing.T) {
	for _, p := range small() {
		b, f := batchOf(t, p), frameOf(p)
		table, err := ntt.New(p.N, p.T)
		if err != api.OK {
			t.Fatal(err)
		}
		root := f.slots[0]
		values := make([]uint64, p.N)
		for place := range values {
			if slices.Contains(f.beneath, power(root, uint64(2*place+1), p.T)) {
				values[place] = 1 + uint64(place)%(p.T-1)
			}
		}
		a, _ := table.Back(values)
		rightRow(t, name(p), b, a, make([]int, p.N/2))
	}
}

// P9.2.
func TestThereAndBack(t *testing.T) {
	for _, p := range append(small(), great()...) {
		b := batchOf(t, p)
		list := rows(p)
		if p.N > 64 {
			list = append(list[:12:12], list[len(list)-6:]...)
		}
		for _, v := range list {
			rightRow(t, name(p), b, packed(t, b, v), filled(p, v))
		}
	}
}

// All numbers modulo a small T, in each slot.
func TestAllNumbersOfASmallT(t *testing.T) {
	for _, p := range []api.Params{paramsOf(8, 17), paramsOf(16, 97), paramsOf(8, 113)} {
		b := batchOf(t, p)
		for number := -2 * int(p.T); number <= 2*int(p.T); number++ {
			for slot := range p.N / 2 {
				v := make([]int, slot+1)
				v[slot] = number
				rightRow(t, name(p), b, packed(t, b, v), filled(p, v))
			}
		}
	}
}

func TestPower(t *testing.T) {
	for _, p := range append(small(), great()...) {
		b := batchOf(t, p)
		slots := p.N / 2
		steps := []int{0, 1, -1, 2, -2, slots - 1, slots, slots + 1, -slots, -slots - 1, 1 - slots, p.N, 2 * p.N, 2*p.N + 3, 5*slots - 1, -5*slots + 2, math.MinInt, math.MaxInt, math.MinInt + 1, math.MaxInt - 1, math.MinInt + slots - 1}
		for step := range slots {
			steps = append(steps, step)
		}
		for _, step := range steps {
			want := power(3, modulo(step, uint64(slots)), uint64(2*p.N))
			if got := b.Power(step); got != int(want) {
				t.Error(name(p), step, got, want)
			}
		}
	}
}

// joined is a row that is made of two, number by number, modulo T.
func joined(p api.Params, a, b []int, join func(z, x, y *big.Int) *big.Int) []int {
	row := make([]int, p.N/2)
	for i := range row {
		z := join(new(big.Int), big.NewInt(int64(a[i])), big.NewInt(int64(b[i])))
		row[i] = centered(int(z.Mod(z, new(big.Int).SetUint64(p.T)).Int64()), p.T)
	}
	return row
}

// P9.3: sums and products. The packed sum is the sum of what is packed, coefficient by coefficient.
func TestSumsAndProducts(t *testing.T) {
	for _, p := range append(small(), great()...) {
		b := batchOf(t, p)
		polys, err := ring.New(p.N, []uint64{p.T})
		if err != api.OK {
			t.Fatal(err)
		}
		x := &mixer{state: p.T}
		for range 3 {
			v, w := x.row(p.N/2), x.row(p.N/2)
			one, two := api.Poly{R: [][]uint64{packed(t, b, v)}}, api.Poly{R: [][]uint64{packed(t, b, w)}}
			sum, errSum := polys.Add(one, two)
			product, errProduct := polys.Mul(one, two)
			if errSum != api.OK || errProduct != api.OK {
				t.Fatal(errSum, errProduct)
			}
			if want := packed(t, b, joined(p, v, w, (*big.Int).Add)); !slices.Equal(sum.R[0], want) {
				t.Error("sum", name(p))
			}
			if want := packed(t, b, joined(p, v, w, (*big.Int).Mul)); !slices.Equal(product.R[0], want) {
				t.Error("product", name(p))
			}
			rightRow(t, "told sum", b, sum.R[0], joined(p, v, w, (*big.Int).Add))
			rightRow(t, "told product", b, product.R[0], joined(p, v, w, (*big.Int).Mul))
		}
	}
}

// moved has in slot i what stood in slot i + step.
func moved(v []int, step int) []int {
	row := make([]int, len(v))
	for i := range v {
		row[i] = v[modulo(i+step, uint64(len(v)))]
	}
	return row
}

// P9.3: turns.
func TestTurns(t *testing.T) {
	for _, p := range append(small(), great()...) {
		b := batchOf(t, p)
		slots := p.N / 2
		polys, err := ring.New(p.N, []uint64{p.T})
		if err != api.OK {
			t.Fatal(err)
		}
		v := (&mixer{state: p.T}).row(slots)
		a := packed(t, b, v)
		steps := []int{0, 1, 2, 3, slots - 1, slots, slots + 1, -1, -2, -slots, -slots - 1, 7*slots + 2}
		for step := range min(slots, 32) {
			steps = append(steps, step)
		}
		for _, step := range steps {
			turned, err := polys.Turn(api.Poly{R: [][]uint64{a}}, b.Power(step))
			if err != api.OK {
				t.Fatal(err)
			}
			row := moved(v, step)
			if want := packed(t, b, row); !slices.Equal(turned.R[0], want) {
				t.Error(name(p), step)
			}
			rightRow(t, name(p), b, turned.R[0], filled(p, row))
		}
		for _, step := range []int{math.MinInt, math.MaxInt} {
			turned, _ := polys.Turn(api.Poly{R: [][]uint64{a}}, b.Power(step))
			if want := packed(t, b, moved(v, int(modulo(step, uint64(slots))))); !slices.Equal(turned.R[0], want) {
				t.Error(name(p), step)
			}
		}
	}
}

func BenchmarkPack(b *testing.B) {
	rows, _ := batch.New(paramsOf(api.MaxN, friendly(api.MaxN, api.MaxT, false)))
	v := (&mixer{}).row(api.MaxN / 2)
	for b.Loop() {
		rows.Pack(v)
	}
}

func BenchmarkUnpack(b *testing.B) {
	p := paramsOf(api.MaxN, friendly(api.MaxN, api.MaxT, false))
	rows, _ := batch.New(p)
	a := (&mixer{}).polynomial(p.N, p.T)
	for b.Loop() {
		rows.Unpack(a)
	}
}
