package texts_test

import (
	"math"
	"math/big"
	"slices"
	"strconv"
	"testing"

	"arras/api"
	"arras/texts"
)

const spare = 0x5a5a5a5a5a5a5a5a

// tried are parameters of one prime and of some, of a T beyond a level's modulus, and of the greatest T and primes.
func tried() []api.Params {
	return []api.Params{
		{N: 8, T: 17, Q: []uint64{97, 193}, Width: 2},
		{N: 8, T: 17, Q: []uint64{97}, Width: 2},
		{N: 8, T: 257, Q: []uint64{17, 97, 113}, Width: 2},
		{N: 16, T: 1073741441, Q: []uint64{1125899906842273, 1125899906842177}, Width: 2},
	}
}

// good are texts that are mixed, and all alike at all ends.
func good(p api.Params) [][]uint64 {
	var list [][]uint64
	for _, v := range []uint64{0, 1, p.T - 1, p.T / 2, p.T/2 + 1} {
		list = append(list, slices.Repeat([]uint64{v}, p.N), slices.Repeat([]uint64{v, 3}, p.N/2))
	}
	return list
}

// wrong are too short, too long, or have a coefficient that is T or more.
func wrong(p api.Params) [][]uint64 {
	list := [][]uint64{nil, {}, {1}, make([]uint64, p.N-1), make([]uint64, p.N+1), make([]uint64, 2*p.N)}
	for _, at := range []int{0, p.N / 2, p.N - 1} {
		for _, v := range []uint64{p.T, p.T + 1, 1 << 32, 1 << 63, math.MaxUint64} {
			text := make([]uint64, p.N)
			text[at] = v
			list = append(list, text)
		}
	}
	return list
}

// centerOf is the number that is least in size.
func centerOf(c, m uint64) int64 {
	if 2*c > m {
		return int64(c) - int64(m)
	}
	return int64(c)
}

func TestCentered(t *testing.T) {
	for _, p := range tried() {
		for i, text := range good(p) {
			got, err := texts.Centered(p, text)
			if err != api.OK || len(got) != p.N {
				t.Fatal(p, i, got, err)
			}
			for at, v := range got {
				if v != centerOf(text[at], p.T) {
					t.Error(p, i, at, v)
				}
			}
		}
	}
}

func TestSpread(t *testing.T) {
	for _, p := range tried() {
		for i, text := range good(p) {
			step := big.NewInt(1)
			for level, last := range p.Q {
				step.Mul(step, new(big.Int).SetUint64(last))
				by := new(big.Int).Div(step, new(big.Int).SetUint64(p.T))
				got, err := texts.Spread(p, level, text)
				if err != api.OK || len(got.R) != level+1 {
					t.Fatal(p, i, level, got, err)
				}
				for place, q := range p.Q[:level+1] {
					for at, v := range got.R[place] {
						want := new(big.Int).Mul(by, big.NewInt(centerOf(text[at], p.T)))
						if want.Mod(want, new(big.Int).SetUint64(q)).Uint64() != v || len(got.R[place]) != p.N {
							t.Error(p, i, level, place, at, v)
						}
					}
				}
			}
		}
	}
}

// The step of level 1 is 1101.
func TestSpreadByHand(t *testing.T) {
	p := tried()[0]
	got, err := texts.Spread(p, 1, []uint64{0, 1, 16, 8, 9, 2, 15, 0})
	want := [][]uint64{{0, 34, 63, 78, 19, 68, 29, 0}, {0, 136, 57, 123, 70, 79, 114, 0}}
	if err != api.OK || !slices.EqualFunc(got.R, want, slices.Equal[[]uint64]) {
		t.Error(got, err)
	}
}

func TestNoTexts(t *testing.T) {
	for _, p := range tried() {
		for i, text := range wrong(p) {
			if got, err := texts.Centered(p, text); err != api.ErrForm || len(got) != 0 {
				t.Error("Centered", p, i, got, err)
			}
			for level := range p.Q {
				if got, err := texts.Spread(p, level, text); err != api.ErrForm || len(got.R) != 0 {
					t.Error("Spread", p, i, level, got, err)
				}
			}
		}
	}
}

// Parameters come ahead of levels, and levels ahead of texts.
func TestOrderOfErrors(t *testing.T) {
	for _, p := range tried() {
		for i, text := range [][]uint64{make([]uint64, p.N), nil} {
			for _, level := range []int{-1, len(p.Q), math.MaxInt, math.MinInt} {
				what := strconv.Itoa(level) + " " + strconv.Itoa(i)
				if got, err := texts.Spread(p, level, text); err != api.ErrLevel || len(got.R) != 0 {
					t.Error(what, got, err)
				}
				none := p
				none.Width = 0
				if got, err := texts.Spread(none, level, text); err != api.ErrParam || len(got.R) != 0 {
					t.Error(what, got, err)
				}
			}
		}
	}
}

// Nothing that is handed in is changed or kept, and no two lists of an answer share memory.
func TestMemory(t *testing.T) {
	for _, p := range tried() {
		row := append(slices.Clone(p.Q), spare, spare)
		p.Q = row[:len(p.Q)]
		for _, text := range slices.Concat(good(p), wrong(p)) {
			words := append(slices.Clone(text), spare, spare)
			wasRow, was := slices.Clone(row), slices.Clone(words)
			spread, _ := texts.Spread(p, len(p.Q)-1, words[:len(text)])
			texts.Centered(p, words[:len(text)])
			for number, list := range spread.R {
				for i := range list[:cap(list)] {
					list[:cap(list)][i] = uint64(number)
				}
			}
			for number, list := range spread.R {
				if slices.ContainsFunc(list, func(v uint64) bool { return v != uint64(number) }) {
					t.Error("shared", p, number)
				}
			}
			if !slices.Equal(row, wasRow) || !slices.Equal(words, was) {
				t.Error("changed", p)
			}
		}
	}
}
