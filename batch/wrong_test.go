package batch_test

import (
	"math"
	"slices"
	"testing"

	"arras/api"
	"arras/batch"
)

func refusedPack(t *testing.T, what string, b *batch.Batch, v []int, want api.Errno) {
	t.Helper()
	if a, err := b.Pack(v); len(a) != 0 || err != want {
		t.Error("Pack", what, len(v), a, err, want)
	}
}

func refusedUnpack(t *testing.T, what string, b *batch.Batch, a []uint64, want api.Errno) {
	t.Helper()
	if v, err := b.Unpack(a); len(v) != 0 || err != want {
		t.Error("Unpack", what, len(a), v, err, want)
	}
}

// One condition of the parameters is broken at a time.
func TestWrongParameters(t *testing.T) {
	if _, err := batch.New(example()); err != api.OK {
		t.Fatal(err)
	}
	for _, p := range []api.Params{
		{},
		{N: 4, T: 17, Q: []uint64{97, 193}, Width: 2},
		{N: 0, T: 17, Q: []uint64{97, 193}, Width: 2},
		{N: -8, T: 17, Q: []uint64{97, 193}, Width: 2},
		{N: 12, T: 97, Q: []uint64{193}, Width: 2},
		{N: 512, T: 12289, Q: []uint64{13313}, Width: 2},
		{N: 8192, T: 65537, Q: []uint64{114689}, Width: 2},
		{N: math.MinInt, T: 17, Q: []uint64{97, 193}, Width: 2},
		{N: math.MaxInt, T: 17, Q: []uint64{97, 193}, Width: 2},
		{N: 8, T: 0, Q: []uint64{97, 193}, Width: 2},
		{N: 8, T: 33, Q: []uint64{97, 193}, Width: 2},
		{N: 8, T: 41, Q: []uint64{97, 193}, Width: 2},
		{N: 8, T: 97, Q: []uint64{97, 193}, Width: 2},
		{N: 8, T: friendly(8, api.MaxT, true), Q: []uint64{97, 193}, Width: 2},
		{N: 8, T: 17, Width: 2},
		{N: 8, T: 17, Q: []uint64{97, 97}, Width: 2},
		{N: 8, T: 17, Q: []uint64{97, 161}, Width: 2},
		{N: 8, T: 17, Q: []uint64{friendly(8, 1<<50, true)}, Width: 2},
		{N: 8, T: 17, Q: []uint64{97, 113, 193, 241, 257, 337, 353, 401, 433}, Width: 2},
		{N: 8, T: 17, Q: []uint64{97, 193}},
		{N: 8, T: 17, Q: []uint64{97, 193}, Width: api.MaxError + 1},
		{N: 1024, T: 12289, Q: []uint64{friendly(1024, 1<<27, true)}, Width: 2},
	} {
		if b, err := batch.New(p); b != nil || err != api.ErrParam {
			t.Error(p, b, err)
		}
	}
}

func TestRowsThatAreTooLong(t *testing.T) {
	for _, p := range append(small(), great()...) {
		b := batchOf(t, p)
		slots := p.N / 2
		for _, count := range []int{slots - 1, slots} {
			if a, err := b.Pack(make([]int, count)); err != api.OK || len(a) != p.N {
				t.Error(name(p), count, len(a), err)
			}
		}
		for _, count := range []int{slots + 1, slots + 2, p.N - 1, p.N, p.N + 1, 3 * p.N} {
			refusedPack(t, name(p), b, make([]int, count), api.ErrForm)
		}
	}
}

func TestPolynomialsThatAreNone(t *testing.T) {
	for _, p := range append(small(), great()...) {
		b := batchOf(t, p)
		for _, count := range []int{0, 1, p.N / 2, p.N - 1, p.N + 1, 2 * p.N} {
			refusedUnpack(t, name(p), b, make([]uint64, count), api.ErrForm)
		}
		refusedUnpack(t, name(p), b, nil, api.ErrForm)
		for _, place := range []int{0, 1, p.N/2 - 1, p.N / 2, p.N - 2, p.N - 1} {
			a := make([]uint64, p.N)
			a[place] = p.T - 1
			if v, err := b.Unpack(a); err != api.OK || len(v) != p.N/2 {
				t.Error(name(p), place, len(v), err)
			}
			for _, c := range []uint64{p.T, p.T + 1, 2 * p.T, 1 << 32, 1 << 63, math.MaxUint64} {
				a[place] = c
				refusedUnpack(t, name(p), b, a, api.ErrForm)
			}
		}
	}
}

// After what was refused a batch answers as ahead of it.
func TestRefusalsChangeNothing(t *testing.T) {
	p := example()
	b, fresh := batchOf(t, p), batchOf(t, p)
	v := []int{5, -3, 8, 2}
	for _, wrong := range []func(){
		func() { b.Pack(make([]int, 5)) },
		func() { b.Unpack(make([]uint64, 7)) },
		func() { b.Unpack(slices.Repeat([]uint64{17}, 8)) },
	} {
		wrong()
		if got, want := packed(t, b, v), packed(t, fresh, v); !slices.Equal(got, want) {
			t.Error(got, want)
		}
		rightRow(t, "later", b, packed(t, b, v), v)
		if b.Power(1) != 3 {
			t.Error(b.Power(1))
		}
	}
}

// A nil batch answers ErrArg ahead of all else; one that New didn't make is as good as none.
func TestNoBatch(t *testing.T) {
	for what, b := range map[string]*batch.Batch{"nil": nil, "zero": {}} {
		for _, v := range [][]int{nil, {}, {1}, {1, 1, 1, 1}, make([]int, 5), make([]int, api.MaxN)} {
			refusedPack(t, what, b, v, api.ErrArg)
		}
		for _, a := range [][]uint64{nil, {}, make([]uint64, 8), slices.Repeat([]uint64{math.MaxUint64}, 8), make([]uint64, api.MaxN)} {
			refusedUnpack(t, what, b, a, api.ErrArg)
		}
		for _, step := range []int{0, 1, -1, 4, math.MinInt, math.MaxInt} {
			if got := b.Power(step); got != 0 {
				t.Error(what, step, got)
			}
		}
	}
}
