package pack_test

import (
	"bytes"
	"strconv"
	"testing"

	"arras/api"
	"arras/pack"
)

// The examples of the chapter, and one thing of each kind byte by byte.

func TestParamsByHand(t *testing.T) {
	p := paramsOf(8, 17, 1, 97)
	want := []byte{1, 0, 8, 0, 0, 0, 17, 1, 1, 0, 0, 0, 0, 0, 0, 0, 97}
	if b, err := pack.Params(p); err != api.OK || !bytes.Equal(b, want) {
		t.Error(b, err)
	}
	if got, err := pack.ReadParams(want); err != api.OK || !sameThing(thing{p: got}, thing{p: p}) {
		t.Error(got, err)
	}
}

// 4096 is 16 times 256, 40961 is 160 times 256 and 1, 1073692673 is 63, 255, 64, 1, and 68719403009 is 15, 255, 254, 224, 1.
func TestParamsOfManyBytes(t *testing.T) {
	for _, x := range []struct {
		p    api.Params
		want []byte
	}{
		{paramsOf(4096, 40961, 16, 68719403009), []byte{1, 16, 0, 0, 0, 160, 1, 16, 1, 0, 0, 0, 15, 255, 254, 224, 1}},
		{paramsOf(4096, 1073692673, 1, 65537, 40961), []byte{1, 16, 0, 63, 255, 64, 1, 1, 2, 0, 0, 0, 0, 0, 1, 0, 1, 0, 0, 0, 0, 0, 0, 160, 1}},
	} {
		if b, err := pack.Params(x.p); err != api.OK || !bytes.Equal(b, x.want) {
			t.Error(b, err)
		}
		if got, err := pack.ReadParams(x.want); err != api.OK || !sameThing(thing{p: got}, thing{p: x.p}) {
			t.Error(got, err)
		}
	}
}

// head are the bytes of parameters of the primes 97 and 193.
func head(kind byte) []byte {
	return []byte{kind, 0, 8, 0, 0, 0, 17, 2, 2, 0, 0, 0, 0, 0, 0, 0, 97, 0, 0, 0, 0, 0, 0, 0, 193}
}

// words are numbers of eight bytes that are below 256.
func words(list ...byte) []byte {
	var b []byte
	for _, v := range list {
		b = append(b, 0, 0, 0, 0, 0, 0, 0, v)
	}
	return b
}

// counted is an element of the primes 97 and 193, or the first of them, of eight numbers from one on, and from another one on; and its bytes.
func counted(from ...byte) (api.Poly, []byte) {
	var a api.Poly
	var b []byte
	for _, v := range from {
		var list []uint64
		for i := range byte(8) {
			list = append(list, uint64(v+i))
			b = append(b, words(v+i)...)
		}
		a.R = append(a.R, list)
	}
	return a, b
}

func byHand(t *testing.T, h thing, want []byte) {
	t.Helper()
	if b, err := h.write(); err != api.OK || !bytes.Equal(b, want) {
		t.Error(b, err)
	}
	if got, err := read(h.kind, want); err != api.OK || !sameThing(got, h) {
		t.Error(got, err)
	}
}

func TestCipherByHand(t *testing.T) {
	one, oneBytes := counted(1)
	two, twoBytes := counted(89)
	three, threeBytes := counted(33)
	want := append(append(append(append(head(2), 3, 0), oneBytes...), twoBytes...), threeBytes...)
	byHand(t, thing{kind: cipher, p: example(), c: api.Cipher{C: []api.Poly{one, two, three}}}, want)
	one, oneBytes = counted(1, 185)
	two, twoBytes = counted(50, 100)
	want = append(append(append(head(2), 2, 1), oneBytes...), twoBytes...)
	byHand(t, thing{kind: cipher, p: example(), c: api.Cipher{C: []api.Poly{one, two}}}, want)
}

func TestPublicByHand(t *testing.T) {
	b, first := counted(1, 2)
	a, second := counted(50, 150)
	byHand(t, thing{kind: public, p: example(), public: api.Public{B: b, A: a}}, append(append(head(3), first...), second...))
}

func TestSecretByHand(t *testing.T) {
	byHand(t, thing{kind: secret, p: example(), s: []int64{0, 1, -1, 0, -1, -1, 1, 1}}, append(head(4), 0, 1, 2, 0, 2, 2, 1, 1))
}

func TestKeysByHand(t *testing.T) {
	var elements []api.Poly
	want := head(5)
	for i := range byte(12) {
		if i == 4 {
			want = append(want, 0, 2, 0, 1)
		}
		if i == 8 {
			want = append(want, 0, 3)
		}
		a, b := counted(5*i, 7*i+100)
		elements, want = append(elements, a), append(want, b...)
	}
	// B's and A's elements by turns.
	keyAt := func(i int) api.Switch {
		return api.Switch{B: []api.Poly{elements[i], elements[i+2]}, A: []api.Poly{elements[i+1], elements[i+3]}}
	}
	turns := []api.Turn{{Step: 1, Key: keyAt(4)}, {Step: 3, Key: keyAt(8)}}
	byHand(t, thing{kind: keys, p: example(), keys: api.Keys{Relin: keyAt(0), Turns: turns}}, want)
}

func TestWritten(t *testing.T) {
	for _, p := range all() {
		for _, h := range thingsOf(p) {
			if b, err := h.write(); err != api.OK || !bytes.Equal(b, h.bytes()) {
				t.Error(h.name(), err)
			}
		}
	}
}

func TestRead(t *testing.T) {
	for _, p := range all() {
		for _, h := range thingsOf(p) {
			if got, err := read(h.kind, h.bytes()); err != api.OK || !sameThing(got, h) {
				t.Error(h.name(), err)
			}
		}
	}
}

func TestWrittenIsReadAsItWas(t *testing.T) {
	for _, p := range all() {
		for _, h := range thingsOf(p) {
			if got, err := read(h.kind, written(t, h)); err != api.OK || !sameThing(got, h) {
				t.Error(h.name(), err)
			}
		}
	}
}

func TestReadIsWrittenAsTheSameBytes(t *testing.T) {
	for _, p := range all() {
		for _, h := range thingsOf(p) {
			got, err := read(h.kind, h.bytes())
			if b, errWritten := got.write(); err != api.OK || errWritten != api.OK || !bytes.Equal(b, h.bytes()) {
				t.Error(h.name(), err, errWritten)
			}
		}
	}
}

// There may be more turns than a byte counts, and steps of two bytes.
func TestManyTurns(t *testing.T) {
	x := &mixer{}
	for _, h := range []thing{
		x.keys(paramsOf(1024, 18433, 2, 12289), allSteps(1024)...),
		x.keys(paramsOf(api.MaxN, 65537, 2, 40961), 1, 127, 128, 255, 256, 257, 1023, 1024, 2046, 2047),
	} {
		b := written(t, h)
		if !bytes.Equal(b, h.bytes()) {
			t.Error(h.name())
		}
		if got, err := read(h.kind, b); err != api.OK || !sameThing(got, h) {
			t.Error(h.name(), err)
		}
	}
}

// Lists that are empty may be nil or not.
func TestNoTurns(t *testing.T) {
	h := (&mixer{}).keys(example())
	want := h.bytes()
	for _, turns := range [][]api.Turn{nil, {}} {
		h.keys.Turns = turns
		if b, err := h.write(); err != api.OK || !bytes.Equal(b, want) {
			t.Error(err)
		}
	}
}

// Of one element many times over, and of switches that share theirs, bytes are told no otherwise.
func TestSharedElements(t *testing.T) {
	x, p := &mixer{}, example()
	a, k := x.element(p.N, p.Q), x.key(p)
	k.B[0], k.A[1] = a, a
	for _, h := range []thing{
		{kind: cipher, p: p, c: api.Cipher{C: []api.Poly{a, a, a}}},
		{kind: public, p: p, public: api.Public{B: a, A: a}},
		{kind: keys, p: p, keys: api.Keys{Relin: k, Turns: []api.Turn{{Step: 2, Key: k}}}},
	} {
		if b, err := h.write(); err != api.OK || !bytes.Equal(b, h.bytes()) {
			t.Error(h.name(), err)
		}
	}
}

// Each number is written and read with all its bytes: each prime of a size of its own is the greatest number but one.
func TestResiduesOfAllSizes(t *testing.T) {
	for size := 5; size <= 50; size++ {
		row := primesBelow(8, 1<<size, 1)
		x, p := &mixer{}, paramsOf(8, 113, 1, row...)
		if row[0] == 113 {
			p.T = 17
		}
		for _, h := range []thing{x.cipher(p, 2, 0), x.public(p), x.keys(p, 3)} {
			b := written(t, h)
			got, err := read(h.kind, b)
			if err != api.OK || !bytes.Equal(b, h.bytes()) || !sameThing(got, h) {
				t.Error(h.name(), err)
			}
		}
	}
}

func BenchmarkPack(b *testing.B) {
	for _, p := range []api.Params{example(), great()[0], great()[4]} {
		for _, h := range oneOfEach(p) {
			packed := written(b, h)
			what := kindName(h.kind) + " " + strconv.Itoa(p.N)
			b.Run("Write "+what, func(b *testing.B) {
				b.SetBytes(int64(len(packed)))
				for b.Loop() {
					h.write()
				}
			})
			b.Run("Read "+what, func(b *testing.B) {
				b.SetBytes(int64(len(packed)))
				for b.Loop() {
					read(h.kind, packed)
				}
			})
		}
	}
}
