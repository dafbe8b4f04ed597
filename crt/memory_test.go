package crt_test

import (
	"slices"
	"testing"

	"arras/api"
	"arras/crt"
)

const spare = 0x5a5a5a5a5a5a5a5a

// things are what all calls are handed, with spare room behind each list, and all of that memory.
type things struct {
	row, residues []uint64
	lists         api.Poly
	numbers       []api.Int
	memory        [][]uint64
}

// room is a list with spare room behind it; its memory is kept to be looked at.
func (h *things) room(list []uint64) []uint64 {
	whole := append(slices.Clone(list), spare, spare, spare)
	h.memory = append(h.memory, whole)
	return whole[:len(list)]
}

func thingsOf(row []uint64) *things {
	h := &things{}
	h.row = h.room(row)
	x := &mixer{state: 5}
	h.residues = h.room(x.residues(row))
	h.lists.R = make([][]uint64, 0, len(row)+2)
	for _, list := range lists(x, row, 3).R {
		h.lists.R = append(h.lists.R, h.room(list))
	}
	h.numbers = make([]api.Int, 0, 9)
	for _, v := range []api.Int{{}, {Neg: true, Abs: api.Nat{1, 0}}, {Abs: api.Nat{5}}, x.whole(9), x.whole(30)} {
		h.numbers = append(h.numbers, api.Int{Neg: v.Neg, Abs: h.room(v.Abs)})
	}
	return h
}

// isAsItWas asks whether memory, and the spare room of lists of lists, is as another.
func (h *things) isAsItWas(was *things) bool {
	return slices.EqualFunc(h.memory, was.memory, slices.Equal[[]uint64]) &&
		slices.EqualFunc(h.lists.R[:cap(h.lists.R)], was.lists.R[:cap(was.lists.R)], slices.Equal[[]uint64]) &&
		slices.EqualFunc(h.numbers[:cap(h.numbers)], was.numbers[:cap(was.numbers)], same)
}

// spoil writes over lists and their spare room.
func spoil(lists [][]uint64) {
	for _, list := range lists {
		list = list[:cap(list)]
		for i := range list {
			list[i] ^= spare
		}
	}
}

// cloned shares no memory with lists, and has their spare room.
func cloned(lists [][]uint64) [][]uint64 {
	var out [][]uint64
	for _, list := range lists {
		out = append(out, slices.Clone(list[:cap(list)]))
	}
	return out
}

// isAs asks whether lists, with their spare room, are as their clones were.
func isAs(lists, was [][]uint64) bool {
	return slices.EqualFunc(cloned(lists), was, slices.Equal[[]uint64])
}

// call is one of the package's calls: it answers all the lists of its answer.
type call struct {
	name string
	do   func(h *things) [][]uint64
}

func sizesOf(numbers []api.Int) [][]uint64 {
	var out [][]uint64
	for _, v := range numbers {
		out = append(out, v.Abs)
	}
	return out
}

func calls() []call {
	return []call{
		{"Product", func(h *things) [][]uint64 { return [][]uint64{crt.Product(h.row)} }},
		{"Product of one", func(h *things) [][]uint64 { return [][]uint64{crt.Product(h.row[:1])} }},
		{"Product of none", func(h *things) [][]uint64 { return [][]uint64{crt.Product(h.row[:0])} }},
		{"Whole", func(h *things) [][]uint64 { v, _ := crt.Whole(h.residues, h.row); return [][]uint64{v.Abs} }},
		{"Whole of too few", func(h *things) [][]uint64 { v, _ := crt.Whole(h.residues[1:], h.row); return [][]uint64{v.Abs} }},
		{"Residues", func(h *things) [][]uint64 { r, _ := crt.Residues(h.numbers[4], h.row); return [][]uint64{r} }},
		{"Residues of -1", func(h *things) [][]uint64 { r, _ := crt.Residues(h.numbers[1], h.row); return [][]uint64{r} }},
		{"Residues of no row", func(h *things) [][]uint64 { r, _ := crt.Residues(h.numbers[1], nil); return [][]uint64{r} }},
		{"Wholes", func(h *things) [][]uint64 { v, _ := crt.Wholes(h.lists, h.row); return sizesOf(v) }},
		{"Wholes of a shorter row", func(h *things) [][]uint64 { v, _ := crt.Wholes(h.lists, h.row[1:]); return sizesOf(v) }},
		{"Element", func(h *things) [][]uint64 { a, _ := crt.Element(h.numbers, h.row); return a.R }},
		{"Element of none", func(h *things) [][]uint64 { a, _ := crt.Element(h.numbers[:0], h.row); return a.R }},
	}
}

func memoryRows() [][]uint64 {
	return [][]uint64{{3}, {5, 7}, mixedPrimes(5), greatestPrimes(longest)}
}

func TestWhatIsHandedInStays(t *testing.T) {
	for _, row := range memoryRows() {
		for _, c := range calls() {
			h, was := thingsOf(row), thingsOf(row)
			answers := c.do(h)
			if !h.isAsItWas(was) {
				t.Error("changed", c.name, len(row))
			}
			spoil(answers)
			if !h.isAsItWas(was) {
				t.Error("shared", c.name, len(row))
			}
		}
	}
}

func TestWhatIsAnsweredIsNew(t *testing.T) {
	for _, row := range memoryRows() {
		for _, c := range calls() {
			h := thingsOf(row)
			first, second := c.do(h), c.do(h)
			was := cloned(first)
			spoil(h.memory)
			if !isAs(first, was) {
				t.Error("kept", c.name, len(row))
			}
			spoil(first)
			if !isAs(second, was) || !isAs(c.do(thingsOf(row)), was) {
				t.Error("shared with another answer", c.name, len(row))
			}
		}
	}
}

// No two lists of an answer share memory, not in their spare room either.
func TestListsOfAnAnswerStandAlone(t *testing.T) {
	for _, row := range memoryRows() {
		for _, c := range calls() {
			answers := c.do(thingsOf(row))
			for i := range answers {
				was := cloned(answers)
				spoil(answers[i : i+1])
				spoil(was[i : i+1])
				if !isAs(answers, was) {
					t.Error(c.name, len(row), i)
				}
			}
		}
	}
}

// One number at many places is many numbers: none of an answer stands in another's memory.
func TestSameNumbersStandAlone(t *testing.T) {
	for _, row := range memoryRows() {
		for _, r := range []uint64{0, 1, 2} {
			a := api.Poly{R: slices.Repeat([][]uint64{{r, r, r}}, len(row))}
			v, err := crt.Wholes(a, row)
			if err != api.OK || len(v) != 3 {
				t.Fatal(row, err)
			}
			want := api.Int{Neg: v[1].Neg, Abs: slices.Clone(v[1].Abs)}
			spoil([][]uint64{v[0].Abs})
			if !same(v[1], want) || !same(v[2], want) {
				t.Error(row, r, v)
			}
		}
	}
}
