package batch_test

import (
	"slices"
	"testing"

	"arras/api"
	"arras/batch"
)

const spare = 0x5a5a5a5a5a5a5a5a

// spoil writes over a list and its spare room.
func spoil[Number int | uint64](list []Number) {
	list = list[:cap(list)]
	for i := range list {
		list[i] ^= spare
	}
}

// roomy is a list with spare room, and the whole of its memory.
func roomy[Number int | uint64](list []Number) ([]Number, []Number) {
	room := append(slices.Clone(list), spare, spare, spare)
	return room[:len(list)], room[:cap(room)]
}

func TestWhatIsHandedInStays(t *testing.T) {
	for _, p := range small() {
		b := batchOf(t, p)
		x := &mixer{state: p.T}
		for _, count := range []int{0, 1, p.N / 2, p.N/2 + 1} {
			v, room := roomy(x.row(count))
			was := slices.Clone(room)
			a, _ := b.Pack(v)
			if !slices.Equal(room, was) {
				t.Error("changed", name(p), count)
			}
			spoil(a)
			if !slices.Equal(room, was) {
				t.Error("shared", name(p), count)
			}
		}
		for _, count := range []int{0, p.N - 1, p.N, p.N + 1} {
			a, room := roomy(x.polynomial(count, p.T+1))
			was := slices.Clone(room)
			b.Unpack(a)
			for i := range a {
				a[i] %= p.T
				was[i] %= p.T
			}
			v, _ := b.Unpack(a)
			if !slices.Equal(room, was) {
				t.Error("changed", name(p), count)
			}
			spoil(v)
			if !slices.Equal(room, was) {
				t.Error("shared", name(p), count)
			}
		}
	}
}

// What is answered may be written over, its spare room too: neither the batch nor another answer is changed; nor is an answer by what was handed in.
func TestWhatIsAnsweredIsNew(t *testing.T) {
	for _, p := range small() {
		b, f := batchOf(t, p), frameOf(p)
		x := &mixer{state: p.T}
		for _, count := range []int{0, 1, p.N / 2} {
			row := x.row(count)
			v, room := roomy(row)
			first, second := packed(t, b, v), packed(t, b, v)
			spoil(room)
			spoil(first)
			if !f.packs(second, row) || !f.packs(packed(t, b, row), row) {
				t.Error("Pack", name(p), count)
			}
		}
		polynomial := x.polynomial(p.N, p.T)
		want := f.unpacked(polynomial)
		a, room := roomy(polynomial)
		first, _ := b.Unpack(a)
		second, err := b.Unpack(a)
		spoil(room)
		spoil(first)
		if err != api.OK || !slices.Equal(second, want) {
			t.Error("Unpack", name(p), second, want)
		}
		rightRow(t, name(p), b, polynomial, want)
	}
}

// A batch keeps none of the parameters that it was made of.
func TestParametersAreNotKept(t *testing.T) {
	for _, one := range append(small(), example()) {
		q, room := roomy(one.Q)
		was := slices.Clone(room)
		p := api.Params{N: one.N, T: one.T, Q: q, Width: one.Width}
		b := batchOf(t, p)
		if !slices.Equal(room, was) {
			t.Error("changed", name(one))
		}
		v := (&mixer{}).row(one.N / 2)
		wantPack, wantPower := packed(t, b, v), b.Power(1)
		spoil(room)
		p.N, p.T, p.Q, p.Width = 16, 193, nil, 0
		if a := packed(t, b, v); !slices.Equal(a, wantPack) || b.Power(1) != wantPower {
			t.Error("kept", name(one))
		}
		rightRow(t, name(one), b, wantPack, filled(one, v))
	}
}

// Only N and T count: what is packed is the same whatever the primes and the width.
func TestPrimesAndWidthDoNotCount(t *testing.T) {
	v := []int{3, -1, 4, 1}
	want := packed(t, batchOf(t, example()), v)
	for _, p := range []api.Params{
		{N: 8, T: 17, Q: []uint64{193, 97}, Width: 2},
		{N: 8, T: 17, Q: []uint64{97}, Width: 16},
		{N: 8, T: 17, Q: []uint64{257, 113, 97, 193, 241}, Width: 1},
	} {
		if got := packed(t, batchOf(t, p), v); !slices.Equal(got, want) {
			t.Error(p, got, want)
		}
	}
}

func TestBatchesStandAlone(t *testing.T) {
	list := small()
	var batches []*batch.Batch
	for _, p := range list {
		batches = append(batches, batchOf(t, p))
	}
	for range 2 {
		for i, p := range list {
			v := (&mixer{state: uint64(i)}).row(p.N / 2)
			rightRow(t, name(p), batches[i], packed(t, batches[i], v), filled(p, v))
		}
	}
}
