package pack_test

import (
	"bytes"
	"slices"
	"testing"

	"arras/api"
)

const spare = 0x5a5a5a5a5a5a5a5a

// roomy is a list with spare room behind it.
func roomy[Entry any](list []Entry, more ...Entry) []Entry {
	return append(slices.Clone(list), more...)[:len(list)]
}

// roomyElement is an element with spare room behind its lists, and behind each of them.
func roomyElement(a api.Poly) api.Poly {
	lists := make([][]uint64, len(a.R))
	for place, list := range a.R {
		lists[place] = roomy(list, spare, spare)
	}
	return api.Poly{R: roomy(lists, []uint64{spare}, []uint64{spare, spare})}
}

// roomyElements is a row of elements with spare room everywhere, in which there are elements too.
func roomyElements(row []api.Poly) []api.Poly {
	elements := make([]api.Poly, len(row))
	for i, a := range row {
		elements[i] = roomyElement(a)
	}
	x := &mixer{}
	return roomy(elements, roomyElement(x.element(8, []uint64{97, 193})), roomyElement(x.element(4, []uint64{97})))
}

func roomySwitch(k api.Switch) api.Switch {
	return api.Switch{B: roomyElements(k.B), A: roomyElements(k.A)}
}

// roomyThing is a thing with spare room everywhere.
func roomyThing(h thing) thing {
	turns := make([]api.Turn, len(h.keys.Turns))
	for i, turn := range h.keys.Turns {
		turns[i] = api.Turn{Step: turn.Step, Key: roomySwitch(turn.Key)}
	}
	h.p.Q = roomy(h.p.Q, 97, spare)
	h.c.C = roomyElements(h.c.C)
	h.public = api.Public{B: roomyElement(h.public.B), A: roomyElement(h.public.A)}
	h.s = roomy(h.s, spare, 1)
	h.keys = api.Keys{Relin: roomySwitch(h.keys.Relin), Turns: roomy(turns, api.Turn{Step: 3}, api.Turn{Step: spare})}
	return h
}

// switches are all of a thing, those in spare room too.
func (h thing) switches() []api.Switch {
	list := []api.Switch{h.keys.Relin}
	for _, turn := range h.keys.Turns[:cap(h.keys.Turns)] {
		list = append(list, turn.Key)
	}
	return list
}

// rows are all rows of elements of a thing.
func (h thing) rows() [][]api.Poly {
	list := [][]api.Poly{h.c.C}
	for _, k := range h.switches() {
		list = append(list, k.B, k.A)
	}
	return list
}

// elements are all of a thing, those in spare room too.
func (h thing) elements() []api.Poly {
	list := []api.Poly{h.public.B, h.public.A}
	for _, row := range h.rows() {
		list = append(list, row[:cap(row)]...)
	}
	return list
}

// words are all numbers of a thing, spare room and lengths too.
func (h thing) words() []uint64 {
	list := append([]uint64{uint64(h.p.N), h.p.T, uint64(h.p.Width), uint64(len(h.p.Q)), uint64(len(h.s)), uint64(len(h.keys.Turns))}, h.p.Q[:cap(h.p.Q)]...)
	for _, v := range h.s[:cap(h.s)] {
		list = append(list, uint64(v))
	}
	for _, turn := range h.keys.Turns[:cap(h.keys.Turns)] {
		list = append(list, uint64(turn.Step))
	}
	for _, row := range h.rows() {
		list = append(list, uint64(len(row)))
	}
	for _, a := range h.elements() {
		list = append(list, uint64(len(a.R)))
		for _, one := range a.R[:cap(a.R)] {
			list = append(append(list, one[:cap(one)]...), uint64(len(one)))
		}
	}
	return list
}

// spoil writes over all of a thing and all its spare room, from the numbers up to the rows.
func (h thing) spoil() {
	for i := range h.p.Q[:cap(h.p.Q)] {
		h.p.Q[:cap(h.p.Q)][i] ^= spare
	}
	for i := range h.s[:cap(h.s)] {
		h.s[:cap(h.s)][i] ^= spare
	}
	for _, a := range h.elements() {
		for _, one := range a.R[:cap(a.R)] {
			for i := range one[:cap(one)] {
				one[:cap(one)][i] ^= spare
			}
		}
	}
	for _, a := range h.elements() {
		clear(a.R[:cap(a.R)])
	}
	for _, row := range h.rows() {
		clear(row[:cap(row)])
	}
	clear(h.keys.Turns[:cap(h.keys.Turns)])
}

// spoilBytes writes over bytes and their spare room.
func spoilBytes(b []byte) {
	for i := range b[:cap(b)] {
		b[:cap(b)][i] ^= 0x5a
	}
}

// memories are such as are taken, and such as are refused. Some of the primes fall.
func memories() []thing {
	var list []thing
	for _, p := range []api.Params{example(), paramsOf(8, 97, 3, 17), paramsOf(8, 17, 2, 193, 113, 97)} {
		x := &mixer{}
		list = append(append(list, oneOfEach(p)...), x.cipher(p, 2, 0), x.keys(p), x.cipher(p, 1, 0), x.keys(p, 2, 1), x.secret(paramsOf(16, 97, 2, 193)))
		list[len(list)-1].p = p
		other := x.public(p)
		other.public.A.R[0][3] = most
		list = append(list, other)
	}
	return list
}

func TestWhatIsWrittenStays(t *testing.T) {
	for _, h := range memories() {
		h = roomyThing(h)
		was := h.words()
		b, _ := h.write()
		if !slices.Equal(h.words(), was) {
			t.Error("changed", h.name())
		}
		spoilBytes(b)
		if !slices.Equal(h.words(), was) {
			t.Error("shared", h.name())
		}
	}
}

// Bytes that are told may be written over: no other ones are changed, nor are they by what was handed in.
func TestWrittenBytesAreNew(t *testing.T) {
	for i := range memories() {
		h := roomyThing(memories()[i])
		first, err := h.write()
		second, _ := h.write()
		third, _ := h.write()
		h.spoil()
		if !bytes.Equal(first, second) {
			t.Error("unlike", h.name())
		}
		spoilBytes(first)
		if !bytes.Equal(second, third) {
			t.Error("shared", h.name())
		}
		// Nor does what comes of the same arguments once more hang on what was answered.
		if again, errAgain := roomyThing(memories()[i]).write(); !bytes.Equal(again, third) || errAgain != err {
			t.Error("kept", h.name())
		}
	}
}

// readables are right bytes of all kinds, and such as are refused, each with spare room.
func readables() map[string]struct {
	kind int
	b    []byte
} {
	list := map[string]struct {
		kind int
		b    []byte
	}{}
	for i, h := range memories() {
		b, err := h.write()
		if err != api.OK {
			continue
		}
		for what, bytes := range map[string][]byte{"": b, " short": b[:len(b)-1], " more": append(slices.Clone(b), 1, 2), " changed": put(b, 2, len(b), 65535)} {
			list[h.name()+" "+string(rune('a'+i))+what] = struct {
				kind int
				b    []byte
			}{h.kind, roomy(bytes, 0, 1, 255)}
		}
	}
	return list
}

func TestWhatIsReadStays(t *testing.T) {
	for what, x := range readables() {
		was := slices.Clone(x.b[:cap(x.b)])
		h, _ := read(x.kind, x.b)
		if !bytes.Equal(x.b[:cap(x.b)], was) {
			t.Error("changed", what)
		}
		h.spoil()
		if !bytes.Equal(x.b[:cap(x.b)], was) {
			t.Error("shared", what)
		}
	}
}

// What is read may be written over: nothing else that was read is changed, nor is it by the bytes.
func TestReadThingsAreNew(t *testing.T) {
	for what, x := range readables() {
		was := slices.Clone(x.b)
		first, err := read(x.kind, x.b)
		second, _ := read(x.kind, x.b)
		third, _ := read(x.kind, x.b)
		spoilBytes(x.b)
		if !sameThing(first, second) {
			t.Error("unlike", what)
		}
		first.spoil()
		if !sameThing(second, third) {
			t.Error("shared", what)
		}
		if again, errAgain := read(x.kind, was); !sameThing(again, third) || errAgain != err {
			t.Error("kept", what)
		}
	}
}

// lists are all lists of numbers of a thing.
func (h thing) lists() [][]uint64 {
	list := [][]uint64{h.p.Q}
	for _, a := range h.elements() {
		list = append(list, a.R...)
	}
	return list
}

// No two lists of an answer share memory, not in their spare room either.
func TestListsOfAnAnswerStandAlone(t *testing.T) {
	for what, x := range readables() {
		h, err := read(x.kind, x.b)
		if err != api.OK {
			continue
		}
		all := h.lists()
		for number, list := range all {
			for at := range list[:cap(list)] {
				list[:cap(list)][at] = uint64(number)
			}
		}
		for number, list := range all {
			if slices.ContainsFunc(list[:cap(list)], func(v uint64) bool { return v != uint64(number) }) {
				t.Error("numbers", what, number)
			}
		}
		elements, rows := h.elements(), h.rows()
		for number, a := range elements {
			for at := range a.R[:cap(a.R)] {
				a.R[:cap(a.R)][at] = make([]uint64, number)
			}
		}
		for number, a := range elements {
			if slices.ContainsFunc(a.R[:cap(a.R)], func(list []uint64) bool { return len(list) != number }) {
				t.Error("an element's lists", what, number)
			}
		}
		for number, row := range rows {
			for at := range row[:cap(row)] {
				row[:cap(row)][at] = api.Poly{R: make([][]uint64, number)}
			}
		}
		for number, row := range rows {
			if slices.ContainsFunc(row[:cap(row)], func(a api.Poly) bool { return len(a.R) != number }) {
				t.Error("a row of elements", what, number)
			}
		}
	}
}

// Things are read and written no otherwise by many at once: nothing is kept between calls.
func TestManyAtOnce(t *testing.T) {
	for _, h := range memories() {
		t.Run(h.name(), func(t *testing.T) {
			t.Parallel()
			b, err := h.write()
			if err != api.OK {
				return
			}
			for range 20 {
				got, err := read(h.kind, b)
				again, errWritten := got.write()
				if err != api.OK || errWritten != api.OK || !bytes.Equal(again, b) || !sameThing(got, h) {
					t.Error(err, errWritten)
				}
			}
		})
	}
}
