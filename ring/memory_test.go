package ring_test

import (
	"slices"
	"testing"

	"arras/api"
	"arras/ring"
)

const spare = 0x5a5a5a5a5a5a5a5a

// call is one of a ring's calls that answer an element; v is numbers that it may lift.
type call struct {
	name string
	do   func(r *ring.Ring, a, b api.Poly, v []int64) (api.Poly, api.Errno)
}

func calls() []call {
	return []call{
		{"Level", func(r *ring.Ring, a, b api.Poly, v []int64) (api.Poly, api.Errno) {
			_, err := r.Level(a)
			return api.Poly{}, err
		}},
		{"Add", func(r *ring.Ring, a, b api.Poly, v []int64) (api.Poly, api.Errno) { return r.Add(a, b) }},
		{"Sub", func(r *ring.Ring, a, b api.Poly, v []int64) (api.Poly, api.Errno) { return r.Sub(a, b) }},
		{"Neg", func(r *ring.Ring, a, b api.Poly, v []int64) (api.Poly, api.Errno) { return r.Neg(a) }},
		{"Mul", func(r *ring.Ring, a, b api.Poly, v []int64) (api.Poly, api.Errno) { return r.Mul(a, b) }},
		{"Turn by 1", func(r *ring.Ring, a, b api.Poly, v []int64) (api.Poly, api.Errno) { return r.Turn(a, 1) }},
		{"Turn by -3", func(r *ring.Ring, a, b api.Poly, v []int64) (api.Poly, api.Errno) { return r.Turn(a, -3) }},
		{"Turn by 2", func(r *ring.Ring, a, b api.Poly, v []int64) (api.Poly, api.Errno) { return r.Turn(a, 2) }},
		{"Drop to the lowest", func(r *ring.Ring, a, b api.Poly, v []int64) (api.Poly, api.Errno) { return r.Drop(a, 0) }},
		{"Drop to its own", func(r *ring.Ring, a, b api.Poly, v []int64) (api.Poly, api.Errno) { return r.Drop(a, len(a.R)-1) }},
		{"Drop too high", func(r *ring.Ring, a, b api.Poly, v []int64) (api.Poly, api.Errno) { return r.Drop(a, len(a.R)) }},
		{"Lift", func(r *ring.Ring, a, b api.Poly, v []int64) (api.Poly, api.Errno) { return r.Lift(v, len(a.R)-1) }},
	}
}

// cloned shares no memory with an element, and has its spare room.
func cloned(lists [][]uint64) [][]uint64 {
	var out [][]uint64
	for _, list := range lists {
		out = append(out, slices.Clone(list[:cap(list)]))
	}
	return out
}

// roomy is an element with spare room behind its lists and behind their list, and the whole of its memory.
func roomy(a api.Poly) (api.Poly, [][]uint64) {
	var whole [][]uint64
	for _, list := range a.R {
		room := append(slices.Clone(list), spare, spare, spare)
		whole = append(whole, room[:len(list):len(list)+3])
	}
	whole = append(whole, []uint64{spare}, []uint64{spare, spare})
	return api.Poly{R: whole[:len(a.R)]}, whole
}

func isAsItWas(whole, was [][]uint64) bool {
	return slices.EqualFunc(cloned(whole), was, slices.Equal[[]uint64])
}

// spoil writes over all lists and their spare room.
func spoil(lists [][]uint64) {
	for _, list := range lists {
		list = list[:cap(list)]
		for i := range list {
			list[i] ^= spare
		}
	}
}

// pairs are two elements of one level, of unlike ones, and what is none.
func pairs(n int, primes []uint64) [][2]api.Poly {
	x := &mixer{state: uint64(n)}
	good, other := x.element(n, primes), x.element(n, primes)
	return [][2]api.Poly{{good, other}, {good, {R: other.R[:1]}}, {{R: good.R[:1]}, {R: other.R[:1]}}, {good, full(n+1, false, primes)}, {full(n, true, primes), {}}, {full(n-1, true, primes), good}}
}

func TestWhatIsHandedInStays(t *testing.T) {
	for _, n := range []int{2, 16, api.MaxN} {
		primes := mixedPrimes(n, 3)
		r := ringOf(t, n, primes)
		for _, c := range calls() {
			for _, pair := range pairs(n, primes) {
				a, wholeA := roomy(pair[0])
				b, wholeB := roomy(pair[1])
				v := numbers(n+5, primes)[:n]
				wasA, wasB, wasV := cloned(wholeA), cloned(wholeB), slices.Clone(v[:cap(v)])
				answer, _ := c.do(r, a, b, v)
				if !isAsItWas(wholeA, wasA) || !isAsItWas(wholeB, wasB) || !slices.Equal(v[:cap(v)], wasV) {
					t.Error("changed", c.name, n)
				}
				spoil(answer.R)
				if !isAsItWas(wholeA, wasA) || !isAsItWas(wholeB, wasB) || !slices.Equal(v[:cap(v)], wasV) {
					t.Error("shared", c.name, n)
				}
			}
		}
	}
}

func TestWhatIsAnsweredIsNew(t *testing.T) {
	for _, n := range []int{2, 16, api.MaxN} {
		primes := mixedPrimes(n, 3)
		r := ringOf(t, n, primes)
		for _, c := range calls() {
			pair := pairs(n, primes)[0]
			a, wholeA := roomy(pair[0])
			b, wholeB := roomy(pair[1])
			v := numbers(n, primes)[:n]
			first, err := c.do(r, a, b, v)
			second, _ := c.do(r, a, b, v)
			if err != api.OK {
				continue
			}
			was := api.Poly{R: cloned(first.R)}
			spoil(wholeA)
			spoil(wholeB)
			clear(a.R[:cap(a.R)])
			clear(b.R[:cap(b.R)])
			right(t, "kept "+c.name, first, err, was)
			spoil(first.R)
			right(t, "shared "+c.name, second, err, was)
			third, err := c.do(r, pair[0], pair[1], v)
			right(t, "the ring's "+c.name, third, err, was)
		}
	}
}

// No two lists of an answer share memory, not in their spare room either.
func TestListsOfAnAnswerStandAlone(t *testing.T) {
	n := 8
	primes := mixedPrimes(n, longest)
	r := ringOf(t, n, primes)
	one := all(n, 1)
	a := api.Poly{R: slices.Repeat([][]uint64{one}, longest)}
	for _, c := range calls() {
		answer, _ := c.do(r, a, a, make([]int64, n))
		for i := range answer.R {
			was := cloned(answer.R)
			spoil(answer.R[i : i+1])
			for j := range answer.R {
				if i != j && !slices.Equal(answer.R[j][:cap(answer.R[j])], was[j]) {
					t.Error(c.name, i, j)
				}
			}
		}
	}
}

func TestOneElementTwice(t *testing.T) {
	n := 16
	primes := mixedPrimes(n, 4)
	r := ringOf(t, n, primes)
	a := (&mixer{}).element(n, primes)
	for _, c := range callsOfTwo() {
		want, err := c.do(r, api.Poly{R: cloned(a.R)}, api.Poly{R: cloned(a.R)})
		once, errOnce := c.do(r, a, a)
		if err != errOnce {
			t.Error(c.name, err, errOnce)
		}
		right(t, c.name, once, err, want)
	}
}

// The row that was handed in is neither changed nor kept.
func TestNewKeepsNoRow(t *testing.T) {
	n := 8
	room := append(mixedPrimes(n, 4), spare, spare)
	primes := room[:4]
	was := slices.Clone(room)
	r := ringOf(t, n, primes)
	if _, err := ring.New(n, room); err != api.ErrArg || !slices.Equal(room, was) {
		t.Error(err, room)
	}
	a := (&mixer{}).element(n, primes)
	want, _ := r.Mul(a, a)
	spoil([][]uint64{room})
	got, err := r.Mul(a, a)
	right(t, "after the row was spoilt", got, err, want)
	right(t, "by the row", got, err, byPrime(a, a, was, productOf))
}

func TestRingsStandAlone(t *testing.T) {
	n := 8
	rowsOfOne := [][]uint64{{17, 97, 113}, {97, 17, 113}, {17}}
	x := &mixer{}
	var rings []*ring.Ring
	var numbers []api.Poly
	for _, primes := range rowsOfOne {
		rings = append(rings, ringOf(t, n, primes))
		numbers = append(numbers, x.element(n, primes))
	}
	for range 3 {
		for i, r := range rings {
			got, err := r.Mul(numbers[i], numbers[i])
			right(t, "one of three", got, err, byPrime(numbers[i], numbers[i], rowsOfOne[i], productOf))
		}
	}
}
