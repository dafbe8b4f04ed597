package scale_test

import (
	"slices"
	"testing"

	"arras/api"
	"arras/ring"
	"arras/scale"
)

const spare = 0x5a5a5a5a5a5a5a5a

// roomy is an element with spare room behind its lists and behind their list.
func roomy(a api.Poly) api.Poly {
	var lists [][]uint64
	for _, list := range a.R {
		lists = append(lists, append(slices.Clone(list), spare, spare, spare)[:len(list)])
	}
	return api.Poly{R: append(lists, []uint64{spare}, []uint64{spare, spare})[:len(a.R)]}
}

// roomyRow is elements with spare room, of themselves and of their row.
func roomyRow(row []api.Poly) []api.Poly {
	var list []api.Poly
	for _, a := range row {
		list = append(list, roomy(a))
	}
	return append(list, api.Poly{R: [][]uint64{{spare}}}, api.Poly{})[:len(row)]
}

// copied is all that a row has, spare room too, in memory of its own.
func copied(row []api.Poly) [][][]uint64 {
	var all [][][]uint64
	for _, a := range row[:cap(row)] {
		var lists [][]uint64
		for _, list := range a.R[:cap(a.R)] {
			lists = append(lists, slices.Clone(list[:cap(list)]))
		}
		all = append(all, lists)
	}
	return all
}

func isAsItWas(row []api.Poly, was [][][]uint64) bool {
	return slices.EqualFunc(copied(row), was, func(a, b [][]uint64) bool {
		return slices.EqualFunc(a, b, slices.Equal[[]uint64])
	})
}

// spoil writes over all numbers of an element, spare ones too, then over its lists.
func spoil(a api.Poly) {
	lists := a.R[:cap(a.R)]
	for _, list := range lists {
		list = list[:cap(list)]
		for i := range list {
			list[i] ^= spare
		}
	}
	clear(lists)
}

// call is one that answers an element.
type call struct {
	name string
	do   func(s *scale.Scale, a, b []api.Poly) (api.Poly, api.Errno)
}

func calls() []call {
	return []call{
		{"Lower", func(s *scale.Scale, a, b []api.Poly) (api.Poly, api.Errno) { return s.Lower(a[0]) }},
		{"Dot", (*scale.Scale).Dot},
	}
}

// handed are rows that calls are handed: such as are good, at the top level and beneath it, and such as are refused.
func handed(p api.Params) [][2][]api.Poly {
	x := &mixer{state: uint64(p.N)}
	a, b := x.elements(4, p.N, p.Q), x.elements(4, p.N, p.Q)
	low := api.Poly{R: a[0].R[:1]}
	var list [][2][]api.Poly
	for _, count := range []int{1, 3, 4} {
		list = append(list, [2][]api.Poly{a[:count:count], b[:count:count]})
	}
	long := slices.Concat(a, b)
	return append(list,
		[2][]api.Poly{{low}, {low}},
		[2][]api.Poly{{a[0]}, {low}},
		[2][]api.Poly{a[:2:2], b[:3:3]},
		[2][]api.Poly{{{}}, b[:1:1]},
		[2][]api.Poly{{changed(a[1], 0, nil)}, b[:1:1]},
		[2][]api.Poly{long, long})
}

func memories() []api.Params {
	return []api.Params{example(), paramsOf(8, 17, primesBelow(8, primeEnd, api.MaxPrimes)...), paramsOf(16, 97, leastPrimes(16, 4)[1:]...), great()[5]}
}

func TestWhatIsHandedInStays(t *testing.T) {
	for _, p := range memories() {
		s := scaleOf(t, p)
		for i, pair := range handed(p) {
			a, b := roomyRow(pair[0]), roomyRow(pair[1])
			wasA, wasB := copied(a), copied(b)
			for _, c := range calls() {
				answer, _ := c.do(s, a, b)
				if !isAsItWas(a, wasA) || !isAsItWas(b, wasB) {
					t.Error("changed", c.name, name(p), i)
				}
				spoil(answer)
				if !isAsItWas(a, wasA) || !isAsItWas(b, wasB) {
					t.Error("shared", c.name, name(p), i)
				}
			}
		}
	}
}

// What is answered may be written over: neither the scale nor another answer is changed; nor is an answer by what was handed in.
func TestWhatIsAnsweredIsNew(t *testing.T) {
	for _, p := range memories() {
		s := scaleOf(t, p)
		for _, pair := range handed(p) {
			for _, c := range calls() {
				a, b := roomyRow(pair[0]), roomyRow(pair[1])
				first, err := c.do(s, a, b)
				second, _ := c.do(s, a, b)
				if err != api.OK {
					continue
				}
				want := roomy(first)
				for _, one := range slices.Concat(a, b) {
					spoil(one)
				}
				clear(a[:cap(a)])
				clear(b[:cap(b)])
				right(t, "kept "+c.name, first, err, want)
				spoil(first)
				right(t, "shared "+c.name, second, err, want)
				third, err := c.do(s, pair[0], pair[1])
				right(t, "the scale's "+c.name, third, err, want)
			}
		}
	}
}

// No two lists of an answer share memory, not in their spare room either.
func TestListsOfAnAnswerStandAlone(t *testing.T) {
	for _, p := range memories() {
		s := scaleOf(t, p)
		a := slices.Repeat([]api.Poly{lifted(p.N, p.Q)}, 4)
		for _, c := range calls() {
			answer, err := c.do(s, a, a)
			if err != api.OK {
				t.Fatal(c.name, err)
			}
			for i, list := range answer.R {
				list = list[:cap(list)]
				for at := range list {
					list[at] = uint64(i)
				}
			}
			for i, list := range answer.R {
				if slices.ContainsFunc(list[:cap(list)], func(v uint64) bool { return v != uint64(i) }) {
					t.Error(c.name, name(p), i)
				}
			}
		}
	}
}

// One element may be handed in more than once, and its lists may be one list.
func TestOneElementTwice(t *testing.T) {
	p := example()
	s := scaleOf(t, p)
	one := make([]uint64, p.N)
	for i := range one {
		one[i] = uint64(i * 13 % 97)
	}
	a := api.Poly{R: [][]uint64{one, one}}
	rightLower(t, p, s, a)
	row := []api.Poly{a, a, a}
	rightDot(t, p, s, row, row)
	rightDot(t, p, s, row[:2], row[1:])
}

// A scale does not change when the parameters that it was made of are written over.
func TestParametersAreNotKept(t *testing.T) {
	for _, one := range memories() {
		room := append(slices.Clone(one.Q), spare, spare)
		was := slices.Clone(room)
		p := paramsOf(one.N, one.T, room[:len(one.Q)]...)
		s := scaleOf(t, p)
		if !slices.Equal(room, was) {
			t.Error("changed", name(one))
		}
		for i := range room {
			room[i] = 193
		}
		p.N, p.T, p.Q = 16, 353, nil
		a, b := pairsOf(one, 2)
		rightLower(t, one, s, a[0])
		rightDot(t, one, s, a, b)
		for level := range one.Q {
			low := api.Poly{R: a[0].R[:level+1]}
			got, err := s.Ring().Neg(low)
			numbers := wholesOf(low, one.Q[:level+1])
			for _, v := range numbers {
				v.Neg(v)
			}
			right(t, "Neg "+name(one), got, err, residuesOf(numbers, one.Q[:level+1]))
		}
	}
}

// Whoever writes over the ring that is told changes neither the scale nor a ring told ahead of it or later.
func TestRingsStandAlone(t *testing.T) {
	p := example()
	s := scaleOf(t, p)
	ahead, spoilt := s.Ring(), s.Ring()
	*spoilt = ring.Ring{}
	a, b := pairsOf(p, 2)
	for _, r := range []*ring.Ring{ahead, s.Ring()} {
		if level, err := r.Level(a[0]); level != 1 || err != api.OK {
			t.Error(level, err)
		}
	}
	rightLower(t, p, s, a[0])
	rightDot(t, p, s, a, b)
}

// The width of errors doesn't count.
func TestWidthDoesNotCount(t *testing.T) {
	p := example()
	a, b := pairsOf(p, 3)
	for _, width := range []int{1, 2, api.MaxError} {
		p.Width = width
		s := scaleOf(t, p)
		rightLower(t, p, s, a[0])
		rightDot(t, p, s, a, b)
	}
}

func TestScalesStandAlone(t *testing.T) {
	list := small()
	var scales []*scale.Scale
	for _, p := range list {
		scales = append(scales, scaleOf(t, p))
	}
	for range 2 {
		for i, p := range list {
			a, b := pairsOf(p, 1)
			if len(p.Q) > 1 {
				rightLower(t, p, scales[i], a[0])
			}
			rightDot(t, p, scales[i], a, b)
		}
	}
}
