package ring_test

import (
	"math"
	"slices"
	"testing"

	"arras/api"
	"arras/ring"
)

func noRing(t *testing.T, n int, primes []uint64) {
	t.Helper()
	if r, err := ring.New(n, primes); r != nil || err != api.ErrArg {
		t.Error(n, primes, r != nil, err)
	}
}

func TestNewTakesAllRowsThatMayBe(t *testing.T) {
	for _, n := range sizes() {
		for _, primes := range [][]uint64{leastPrimes(n, longest), greatestPrimes(n, longest), mixedPrimes(n, longest)} {
			counts := []int{1, 2, 8, 23, longest}
			for _, count := range counts {
				ringOf(t, n, primes[:count])
			}
		}
	}
}

func TestNewOfRowsThatMayNotBe(t *testing.T) {
	for _, n := range []int{2, 8, 256, api.MaxN} {
		good := mixedPrimes(n, longest+1)
		noRing(t, n, nil)
		noRing(t, n, []uint64{})
		noRing(t, n, good)
		noRing(t, n, append(slices.Clone(good), leastPrimes(n, 60)[25:]...))
		noRing(t, n, slices.Repeat(good[:1], 2))
		noRing(t, n, slices.Repeat(good[:1], longest))
		for _, pair := range [][2]int{{0, 1}, {0, longest - 1}, {1, 7}, {longest - 2, longest - 1}} {
			alike := slices.Clone(good[:longest])
			alike[pair[1]] = alike[pair[0]]
			noRing(t, n, alike)
		}
	}
}

// wrongPrimes are none that a table could be of.
func wrongPrimes(n int) []uint64 {
	order := 2 * uint64(n)
	wrong := []uint64{0, 1, 2, 3, order - 1, order, 65537 * 65537, beyondPrime(n), 1<<61 - 1, 1 << 61, 1<<61 + 1, 18446744069414584321, most}
	// A composite number that is 1 modulo 2n, and a prime that is 1 modulo n, but not modulo 2n.
	composite, other := order+1, uint64(n)+1
	for isPrime(composite) {
		composite += order
	}
	for !isPrime(other) || other%order == 1 {
		other += uint64(n)
	}
	return append(wrong, composite, other)
}

func TestNewOfNumbersThatMayNotBe(t *testing.T) {
	for _, n := range []int{2, 4, 8, 256, api.MaxN} {
		good := mixedPrimes(n, 5)
		for _, wrong := range wrongPrimes(n) {
			noRing(t, n, []uint64{wrong})
			for place := range good {
				row := slices.Clone(good)
				row[place] = wrong
				noRing(t, n, row)
			}
		}
	}
}

func TestNewOfSizesThatMayNotBe(t *testing.T) {
	wrong := []int{math.MinInt, -4096, -2, -1, 0, 1, 3, 5, 6, 12, 1000, api.MaxN - 1, api.MaxN + 1, 2 * api.MaxN, 1 << 31, 1 << 32, 1<<32 + 2, 1 << 62, math.MaxInt}
	for _, n := range wrong {
		noRing(t, n, nil)
		noRing(t, n, []uint64{5})
		noRing(t, n, []uint64{5, 13})
		noRing(t, n, greatestPrimes(api.MaxN, 3))
		noRing(t, n, []uint64{65537, 786433})
	}
	noRing(t, 1, []uint64{3, 5})
	noRing(t, 3, []uint64{7, 13})
	noRing(t, 6, []uint64{13, 37})
}

// changed is an element with one list changed.
func changed(a api.Poly, place int, list []uint64) api.Poly {
	lists := slices.Clone(a.R)
	lists[place] = list
	return api.Poly{R: lists}
}

// wrongElements have no lists, too many, one that is too short or too long, or a number that isn't below its prime.
func wrongElements(n int, primes []uint64) []api.Poly {
	x := &mixer{state: 3}
	good := x.element(n, primes)
	wrong := []api.Poly{{}, {R: [][]uint64{}}, {R: append(slices.Clone(good.R), all(n, 0))}, {R: slices.Repeat([][]uint64{all(n, 0)}, longest+1)}, {R: make([][]uint64, len(primes))}}
	for place, q := range primes {
		for _, list := range [][]uint64{nil, {}, all(n-1, 0), all(n+1, 0), all(2*n, 0), all(n/2, q-1), all(n, q), all(n, most), all(n+1, q)} {
			wrong = append(wrong, changed(good, place, list))
		}
		for _, at := range []int{0, n / 2, n - 1} {
			for _, number := range []uint64{q, q + 1, 1 << 61, 1 << 63, most} {
				list := all(n, q-1)
				list[at] = number
				wrong = append(wrong, changed(good, place, list))
			}
		}
	}
	return wrong
}

// An element of a row is none of the row in another order, where a number isn't below the prime at its place.
func TestResiduesStandInTheRowsOrder(t *testing.T) {
	n := 8
	primes := []uint64{17, 97, 113}
	a := full(n, true, primes)
	if level, err := ringOf(t, n, primes).Level(a); level != 2 || err != api.OK {
		t.Error(level, err)
	}
	other := ringOf(t, n, []uint64{97, 17, 113})
	if level, err := other.Level(a); level != 0 || err != api.ErrForm {
		t.Error(level, err)
	}
}

func TestWrongElements(t *testing.T) {
	for _, n := range []int{2, 8, 64, api.MaxN} {
		for _, primes := range [][]uint64{leastPrimes(n, 1), greatestPrimes(n, 1), mixedPrimes(n, 3)} {
			r := ringOf(t, n, primes)
			good := (&mixer{}).element(n, primes)
			was, _ := r.Mul(good, good)
			for _, wrong := range wrongElements(n, primes) {
				formErrors(t, r, wrong, good)
			}
			again, err := r.Mul(good, good)
			right(t, "after errors", again, err, was)
		}
	}
}

// formErrors asks all calls about what is no element, and whether ErrForm comes ahead of the levels and behind an even turn.
func formErrors(t *testing.T, r *ring.Ring, wrong, good api.Poly) {
	t.Helper()
	if level, err := r.Level(wrong); level != 0 || err != api.ErrForm {
		t.Error("Level", level, err)
	}
	low := api.Poly{R: good.R[:1]}
	for _, c := range callsOfTwo() {
		for _, other := range []api.Poly{good, low, wrong} {
			got, err := c.do(r, wrong, other)
			refused(t, c.name, got, err, api.ErrForm)
			got, err = c.do(r, other, wrong)
			refused(t, c.name, got, err, api.ErrForm)
		}
	}
	got, err := r.Neg(wrong)
	refused(t, "Neg", got, err, api.ErrForm)
	for _, k := range []int{1, -1, 3, math.MaxInt} {
		got, err = r.Turn(wrong, k)
		refused(t, "Turn", got, err, api.ErrForm)
		got, err = r.Turn(wrong, k-1)
		refused(t, "Turn", got, err, api.ErrArg)
	}
	for _, level := range []int{0, 1, -1, 99, math.MaxInt, math.MinInt} {
		got, err = r.Drop(wrong, level)
		refused(t, "Drop", got, err, api.ErrForm)
	}
}

type callOfTwo struct {
	name string
	do   func(r *ring.Ring, a, b api.Poly) (api.Poly, api.Errno)
}

func callsOfTwo() []callOfTwo {
	return []callOfTwo{{"Add", (*ring.Ring).Add}, {"Sub", (*ring.Ring).Sub}, {"Mul", (*ring.Ring).Mul}}
}

func TestUnlikeLevels(t *testing.T) {
	for _, n := range []int{2, 64, api.MaxN} {
		primes := mixedPrimes(n, longest)
		r := ringOf(t, n, primes)
		a := (&mixer{}).element(n, primes)
		for _, pair := range [][2]int{{1, 2}, {1, longest}, {longest - 1, longest}} {
			low, high := api.Poly{R: a.R[:pair[0]]}, api.Poly{R: a.R[:pair[1]]}
			for _, c := range callsOfTwo() {
				got, err := c.do(r, low, high)
				refused(t, c.name, got, err, api.ErrLevel)
				got, err = c.do(r, high, low)
				refused(t, c.name, got, err, api.ErrLevel)
			}
		}
	}
}

func TestEvenTurns(t *testing.T) {
	for _, n := range []int{2, 8, api.MaxN} {
		primes := mixedPrimes(n, 2)
		r := ringOf(t, n, primes)
		a := (&mixer{}).element(n, primes)
		for _, k := range []int{0, 2, -2, 4, n, 2 * n, -2 * n, 2*n + 2, 1 << 32, math.MaxInt - 1, math.MinInt, math.MinInt + 2} {
			got, err := r.Turn(a, k)
			refused(t, "Turn", got, err, api.ErrArg)
			got, err = r.Turn(api.Poly{}, k)
			refused(t, "Turn of no element", got, err, api.ErrArg)
		}
	}
}

func TestWrongLifts(t *testing.T) {
	for _, n := range []int{2, 8, api.MaxN} {
		for _, count := range []int{1, 3, longest} {
			r := ringOf(t, n, mixedPrimes(n, count))
			lists := [][]int64{nil, {}, {0}, make([]int64, n-1), make([]int64, n+1), make([]int64, 2*n)}
			for _, level := range []int{count, count + 1, 99, -1, -2, math.MaxInt, math.MinInt} {
				for _, v := range append(lists, make([]int64, n)) {
					got, err := r.Lift(v, level)
					refused(t, "Lift to a level that isn't", got, err, api.ErrLevel)
				}
			}
			for _, level := range []int{0, count - 1} {
				for _, v := range lists {
					got, err := r.Lift(v, level)
					refused(t, "Lift of other numbers", got, err, api.ErrForm)
				}
			}
		}
	}
}

func TestNoRing(t *testing.T) {
	good := api.Poly{R: [][]uint64{{1, 1}, {1, 1}}}
	// A ring that New didn't make knows no elements, as one that is nil.
	for _, r := range []*ring.Ring{nil, {}} {
		for _, a := range []api.Poly{{}, good, {R: [][]uint64{{}}}, {R: make([][]uint64, 30)}} {
			if level, err := r.Level(a); level != 0 || err != api.ErrArg {
				t.Error("Level", level, err)
			}
			for _, c := range callsOfTwo() {
				got, err := c.do(r, a, good)
				refused(t, c.name, got, err, api.ErrArg)
			}
			got, err := r.Neg(a)
			refused(t, "Neg", got, err, api.ErrArg)
			for _, k := range []int{0, 1, 2, -1, math.MaxInt, math.MinInt} {
				got, err = r.Turn(a, k)
				refused(t, "Turn", got, err, api.ErrArg)
				got, err = r.Drop(a, k)
				refused(t, "Drop", got, err, api.ErrArg)
				got, err = r.Lift([]int64{1, 1}, k)
				refused(t, "Lift", got, err, api.ErrArg)
				got, err = r.Lift(nil, k)
				refused(t, "Lift of nothing", got, err, api.ErrArg)
			}
		}
	}
}
