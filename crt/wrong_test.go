package crt_test

import (
	"slices"
	"testing"

	"arras/api"
	"arras/crt"
)

func refusedWhole(t *testing.T, r, row []uint64, want api.Errno) {
	t.Helper()
	if v, err := crt.Whole(r, row); err != want || !same(v, api.Int{}) {
		t.Error("Whole", r, row, v, err, want)
	}
}

func refusedWholes(t *testing.T, a api.Poly, row []uint64, want api.Errno) {
	t.Helper()
	if v, err := crt.Wholes(a, row); err != want || len(v) != 0 {
		t.Error("Wholes", row, len(v), err, want)
	}
}

func refusedElement(t *testing.T, v []api.Int, row []uint64, want api.Errno) {
	t.Helper()
	if a, err := crt.Element(v, row); err != want || len(a.R) != 0 {
		t.Error("Element", row, len(a.R), err, want)
	}
}

// noRow asks all calls about a row that is none, with residues that go with it and with such as don't.
func noRow(t *testing.T, row []uint64) {
	t.Helper()
	for _, r := range [][]uint64{make([]uint64, len(row)), nil, {0}, slices.Repeat([]uint64{most}, len(row)), make([]uint64, len(row)+1)} {
		refusedWhole(t, r, row, api.ErrArg)
		var lists [][]uint64
		for i := range r {
			lists = append(lists, r[i:i+1:i+1])
		}
		refusedWholes(t, api.Poly{R: lists}, row, api.ErrArg)
	}
	refusedWholes(t, api.Poly{R: [][]uint64{{0}, {0, 0}}}, row, api.ErrArg)
	for _, v := range []api.Int{{}, {Abs: api.Nat{1}}, {Neg: true, Abs: api.Nat{1, 2}}} {
		if r, err := crt.Residues(v, row); err != api.ErrArg || len(r) != 0 {
			t.Error("Residues", row, r, err)
		}
		refusedElement(t, []api.Int{v, v}, row, api.ErrArg)
	}
	refusedElement(t, nil, row, api.ErrArg)
	refusedElement(t, []api.Int{}, row, api.ErrArg)
}

func TestRowsOfTooFewAndTooManyPrimes(t *testing.T) {
	noRow(t, nil)
	noRow(t, []uint64{})
	for _, primes := range [][]uint64{leastPrimes(longest + 1), greatestPrimes(longest + 1), mixedPrimes(longest + 1)} {
		noRow(t, primes)
	}
	noRow(t, leastPrimes(100))
}

func TestRowsWithTwoAlike(t *testing.T) {
	noRow(t, []uint64{3, 3})
	noRow(t, []uint64{5, 7, 5})
	noRow(t, slices.Repeat([]uint64{7}, longest))
	for _, pair := range [][2]int{{0, 1}, {0, longest - 1}, {3, 9}, {longest - 2, longest - 1}} {
		alike := mixedPrimes(longest)
		alike[pair[1]] = alike[pair[0]]
		noRow(t, alike)
	}
}

// wrongPrimes are 2, primes from 2^61 on, and such as are no primes: those that pass a weaker test among them.
func wrongPrimes() []uint64 {
	beyond := uint64(1<<61) + 1
	for !isPrime(beyond) {
		beyond += 2
	}
	return []uint64{0, 1, 2, 4, 9, 15, 25, 49, 561, 1729, 2047, 65537 * 65537, 3215031751, 341550071728321, 1<<61 - 3, 1 << 61, 1<<61 + 1, beyond, 18446744073709551557, 1 << 63, most}
}

func TestRowsWithWrongNumbers(t *testing.T) {
	for _, wrong := range wrongPrimes() {
		noRow(t, []uint64{wrong})
		for _, good := range [][]uint64{{5, 7, 11}, mixedPrimes(longest)} {
			for _, place := range []int{0, 1, len(good) - 1} {
				row := slices.Clone(good)
				row[place] = wrong
				noRow(t, row)
			}
		}
	}
}

func TestWrongResidues(t *testing.T) {
	for _, row := range rows() {
		good := (&mixer{}).residues(row)
		for _, count := range []int{0, 1, len(row) - 1, len(row) + 1, 2 * len(row), longest, longest + 1} {
			if count != len(row) {
				refusedWhole(t, make([]uint64, count), row, api.ErrForm)
			}
		}
		refusedWhole(t, append(slices.Clone(good), 0), row, api.ErrForm)
		refusedWhole(t, nil, row, api.ErrForm)
		for place, q := range row {
			for _, number := range []uint64{q, q + 1, 2 * q, 1 << 61, 1 << 63, most} {
				r := slices.Clone(good)
				r[place] = number
				refusedWhole(t, r, row, api.ErrForm)
			}
		}
	}
}

func TestWrongLists(t *testing.T) {
	for _, row := range rows() {
		good := lists(&mixer{}, row, 4)
		wrong := [][][]uint64{nil, {}, good.R[:len(row)-1], append(slices.Clone(good.R), make([]uint64, 4)), slices.Repeat([][]uint64{{0}}, longest+1), append(make([][]uint64, len(row)), nil)}
		for place, q := range row {
			others := [][]uint64{{0, 0, 0, q}, {q, 0, 0, 0}, {0, q + 1, 0, 0}, {0, 0, most, 0}}
			if len(row) > 1 { // a list alone is as long as itself
				others = append(others, nil, []uint64{}, []uint64{0}, make([]uint64, 3), make([]uint64, 5), []uint64{q, 0, 0, 0, 0})
			}
			for _, list := range others {
				changed := slices.Clone(good.R)
				changed[place] = list
				wrong = append(wrong, changed)
			}
		}
		for _, lists := range wrong {
			refusedWholes(t, api.Poly{R: lists}, row, api.ErrForm)
		}
	}
}

func TestNoNumbers(t *testing.T) {
	for _, row := range rows() {
		refusedElement(t, nil, row, api.ErrForm)
		refusedElement(t, []api.Int{}, row, api.ErrForm)
	}
}

// Errors leave nothing behind: what is right is told as ahead of them.
func TestAfterErrors(t *testing.T) {
	row := mixedPrimes(8)
	r := (&mixer{}).residues(row)
	was, _ := crt.Whole(r, row)
	refusedWhole(t, row, row, api.ErrForm)
	refusedWhole(t, r, append(slices.Clone(row), row[0]), api.ErrArg)
	if again, err := crt.Whole(r, row); err != api.OK || !same(again, was) {
		t.Error(again, err, was)
	}
}
