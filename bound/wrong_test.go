package bound_test

import (
	"math"
	"slices"
	"strconv"
	"testing"

	"arras/api"
	"arras/bound"
)

// hand is all that a call may be handed.
type hand struct {
	p            api.Params
	level, parts int
	a, b         api.Nat
	text         []uint64
}

// call is one of the chapter's, and what it is handed.
type call struct {
	name                        string
	hasLevel, hasText, hasParts bool
	do                          func(h hand) (api.Nat, api.Errno)
}

func calls() []call {
	return []call{
		{name: "Fresh", do: func(h hand) (api.Nat, api.Errno) { return bound.Fresh(h.p) }},
		{name: "Add", hasLevel: true, do: func(h hand) (api.Nat, api.Errno) { return bound.Add(h.p, h.level, h.a, h.b) }},
		{name: "AddText", hasLevel: true, do: func(h hand) (api.Nat, api.Errno) { return bound.AddText(h.p, h.level, h.a) }},
		{name: "MulText", hasLevel: true, hasText: true, do: func(h hand) (api.Nat, api.Errno) { return bound.MulText(h.p, h.level, h.a, h.text) }},
		{name: "Mul", hasLevel: true, do: func(h hand) (api.Nat, api.Errno) { return bound.Mul(h.p, h.level, h.a, h.b) }},
		{name: "Switch", hasLevel: true, do: func(h hand) (api.Nat, api.Errno) { return bound.Switch(h.p, h.level, h.a) }},
		{name: "Lower", hasLevel: true, hasParts: true, do: func(h hand) (api.Nat, api.Errno) { return bound.Lower(h.p, h.level, h.parts, h.a) }},
	}
}

// goodHand is what all calls take.
func goodHand(p api.Params) hand {
	return hand{p: p, level: len(p.Q) - 1, parts: 2, a: api.Nat{300, 1}, b: api.Nat{7}, text: (&mixer{state: p.T}).numbers(p.N, p.T)}
}

func refused(t *testing.T, what string, got api.Nat, err, want api.Errno) {
	t.Helper()
	if err != want || len(got) != 0 {
		t.Error(what, got, err, want)
	}
}

// tried are parameters of two primes, of three, of as many as may be, and of many coefficients.
func tried() []api.Params {
	list := all()
	return []api.Params{example(), list[4], list[len(list)-5], list[len(list)-3], list[len(list)-1]}
}

// wrongParams have one condition of the parameters broken at a time.
func wrongParams() []api.Params {
	return []api.Params{
		{},
		{N: 4, T: 17, Q: []uint64{97, 193}, Width: 2},
		{N: 0, T: 17, Q: []uint64{97, 193}, Width: 2},
		{N: -8, T: 17, Q: []uint64{97, 193}, Width: 2},
		{N: 12, T: 97, Q: []uint64{193}, Width: 2},
		{N: 512, T: 12289, Q: []uint64{13313}, Width: 2},
		{N: 8192, T: 65537, Q: []uint64{114689}, Width: 2},
		{N: math.MinInt, T: 17, Q: []uint64{97, 193}, Width: 2},
		{N: math.MaxInt, T: 17, Q: []uint64{97, 193}, Width: 2},
		{N: 8, T: 0, Q: []uint64{97, 193}, Width: 2},
		{N: 8, T: 33, Q: []uint64{97, 193}, Width: 2},
		{N: 8, T: 41, Q: []uint64{97, 193}, Width: 2},
		{N: 8, T: 193, Q: []uint64{97, 193}, Width: 2},
		{N: 8, T: primesBelow(8, api.MaxT+1000, 1)[0], Q: []uint64{97, 193}, Width: 2},
		{N: 8, T: 17, Width: 2},
		{N: 8, T: 17, Q: []uint64{}, Width: 2},
		{N: 8, T: 17, Q: []uint64{0}, Width: 2},
		{N: 8, T: 17, Q: []uint64{97, 97}, Width: 2},
		{N: 8, T: 17, Q: []uint64{97, 161}, Width: 2},
		{N: 8, T: 17, Q: []uint64{97, 101}, Width: 2},
		{N: 8, T: 17, Q: []uint64{primesBelow(8, primeEnd+1000, 1)[0]}, Width: 2},
		{N: 8, T: 17, Q: leastPrimes(8, api.MaxPrimes+2)[1:], Width: 2},
		{N: 8, T: 17, Q: []uint64{97, 193}},
		{N: 8, T: 17, Q: []uint64{97, 193}, Width: -1},
		{N: 8, T: 17, Q: []uint64{97, 193}, Width: api.MaxError + 1},
		{N: 1024, T: 12289, Q: primesBelow(1024, 1<<28, 1), Width: 2},
		{N: api.MaxN, T: 40961, Q: primesBelow(api.MaxN, 1<<37, 3), Width: 2},
	}
}

func TestWrongParameters(t *testing.T) {
	for _, p := range wrongParams() {
		h := goodHand(example())
		for level := -1; level < 3; level++ {
			h.p, h.level = p, level
			for _, c := range calls() {
				got, err := c.do(h)
				refused(t, c.name+" "+nameAt(p, level), got, err, api.ErrParam)
			}
			if bound.Fits(p, level, nil) {
				t.Error("Fits", nameAt(p, level))
			}
		}
	}
}

// noLevels are below 0, above the highest one, and far away.
func noLevels(p api.Params) []int {
	top := len(p.Q) - 1
	return []int{-1, -2, top + 1, top + 2, api.MaxPrimes, 1 << 32, -1 << 32, math.MaxInt, math.MinInt}
}

func TestNoLevels(t *testing.T) {
	for _, p := range tried() {
		for _, level := range noLevels(p) {
			h := goodHand(p)
			h.level = level
			for _, c := range calls() {
				if got, err := c.do(h); c.hasLevel {
					refused(t, c.name+" "+nameAt(p, level), got, err, api.ErrLevel)
				} else if err != api.OK {
					t.Error(c.name, nameAt(p, level), err)
				}
			}
			if bound.Fits(p, level, nil) {
				t.Error("Fits", nameAt(p, level))
			}
		}
	}
}

// From level 0 there is no way down; all other calls take it.
func TestLevelNought(t *testing.T) {
	for _, p := range append(tried(), paramsOf(8, 17, 1, 97)) {
		h := goodHand(p)
		h.level = 0
		for _, c := range calls() {
			got, err := c.do(h)
			if c.hasParts {
				refused(t, c.name+" "+name(p), got, err, api.ErrLevel)
			} else if err != api.OK || len(got) == 0 {
				t.Error(c.name, name(p), got, err)
			}
		}
	}
}

// noTexts are too short, too long, or have a coefficient that is T or more.
func noTexts(p api.Params) [][]uint64 {
	list := [][]uint64{nil, {}, {1}, make([]uint64, p.N-1), make([]uint64, p.N+1), make([]uint64, 2*p.N), make([]uint64, p.N/2)}
	for _, at := range []int{0, 1, p.N / 2, p.N - 1} {
		for _, v := range []uint64{p.T, p.T + 1, 2 * p.T, api.MaxT, 1 << 32, 1 << 63, mostWord, mostWord - p.T} {
			text := slices.Repeat([]uint64{p.T - 1, 0}, p.N/2)
			text[at] = v
			list = append(list, text)
		}
	}
	return list
}

func TestNoTexts(t *testing.T) {
	for _, p := range tried() {
		for level := range p.Q {
			for i, text := range noTexts(p) {
				got, err := bound.MulText(p, level, api.Nat{1}, text)
				refused(t, nameAt(p, level)+" text "+strconv.Itoa(i), got, err, api.ErrForm)
			}
		}
	}
}

func TestWrongParts(t *testing.T) {
	for _, p := range tried() {
		for level := 1; level < len(p.Q); level++ {
			for _, parts := range []int{0, 1, 4, 5, -1, -2, -3, 1<<32 + 2, 1<<32 + 3, math.MaxInt, math.MinInt} {
				got, err := bound.Lower(p, level, parts, api.Nat{1})
				refused(t, nameAt(p, level)+" parts "+strconv.Itoa(parts), got, err, api.ErrShape)
			}
		}
	}
}

// Of all wrong things together the chapter's first one is told.
func TestOrderOfErrors(t *testing.T) {
	for _, c := range calls() {
		for faults := range 32 {
			h, want := goodHand(example()), api.OK
			put := func(bit int, applies bool, err api.Errno, spoil func()) {
				if faults&bit != 0 && applies {
					spoil()
					want = err
				}
			}
			// The last one that is put in is the one that counts.
			put(1, c.hasParts, api.ErrShape, func() { h.parts = 4 })
			put(2, c.hasText, api.ErrForm, func() { h.text = h.text[1:] })
			put(4, c.hasParts, api.ErrLevel, func() { h.level = 0 })
			put(8, c.hasLevel, api.ErrLevel, func() { h.level = 2 })
			put(16, true, api.ErrParam, func() { h.p.Width = 0 })
			got, err := c.do(h)
			if want != api.OK {
				refused(t, c.name+" "+strconv.Itoa(faults), got, err, want)
			} else if err != api.OK {
				t.Error(c.name, faults, err)
			}
		}
	}
}
