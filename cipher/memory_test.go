package cipher_test

import (
	"slices"
	"testing"

	"arras/api"
	"arras/tape"
)

const spare = 0x5a5a5a5a5a5a5a5a

// roomy is a list with spare room behind it.
func roomy[Entry any](list []Entry, more ...Entry) []Entry {
	return append(slices.Clone(list), more...)[:len(list)]
}

// roomyPoly is an element with spare room behind its lists, and behind each of them.
func roomyPoly(a api.Poly) api.Poly {
	lists := make([][]uint64, len(a.R))
	for place, list := range a.R {
		lists[place] = roomy(list, spare, spare)
	}
	return api.Poly{R: roomy(lists, []uint64{spare}, []uint64{spare, spare})}
}

// roomyHand is what is handed in, with spare room everywhere.
func roomyHand(h hand) hand {
	h.p.Q = roomy(h.p.Q, spare, spare)
	h.k = api.Public{B: roomyPoly(h.k.B), A: roomyPoly(h.k.A)}
	h.s = roomy(h.s, spare, spare, spare)
	h.text = roomy(h.text, spare)
	parts := make([]api.Poly, len(h.c.C))
	for i, a := range h.c.C {
		parts[i] = roomyPoly(a)
	}
	h.c = api.Cipher{C: roomy(parts, roomyPoly((&mixer{}).element(4, []uint64{97})))}
	return h
}

// wordsOf are all words of elements, spare room and lengths too.
func wordsOf(elements ...api.Poly) []uint64 {
	var list []uint64
	for _, a := range elements {
		list = append(list, uint64(len(a.R)))
		for _, one := range a.R[:cap(a.R)] {
			list = append(append(list, one[:cap(one)]...), uint64(len(one)))
		}
	}
	return list
}

// allOf are all words that are handed in, spare room and lengths too.
func allOf(h hand) []uint64 {
	list := slices.Concat(h.p.Q[:cap(h.p.Q)], h.text[:cap(h.text)], wordsOf(h.k.B, h.k.A), wordsOf(h.c.C[:cap(h.c.C)]...))
	for _, v := range h.s[:cap(h.s)] {
		list = append(list, uint64(v))
	}
	return list
}

// spoilElements writes over elements and their spare room, from the numbers up to the rows of lists.
func spoilElements(elements ...api.Poly) {
	for _, a := range elements {
		for _, list := range a.R[:cap(a.R)] {
			list = list[:cap(list)]
			for i := range list {
				list[i] ^= spare
			}
		}
		clear(a.R[:cap(a.R)])
	}
}

// spoil writes over all that an answer has.
func (a answer) spoil() {
	spoilElements(a.c.C...)
	clear(a.c.C[:cap(a.c.C)])
	for _, list := range [][]uint64{a.text, a.noise} {
		list = list[:cap(list)]
		for i := range list {
			list[i] ^= spare
		}
	}
}

// spoil writes over all that was handed in.
func (h hand) spoil() {
	for i := range h.p.Q[:cap(h.p.Q)] {
		h.p.Q[:cap(h.p.Q)][i] = 193
	}
	for i := range h.s[:cap(h.s)] {
		h.s[:cap(h.s)][i] = 7
	}
	for i := range h.text[:cap(h.text)] {
		h.text[:cap(h.text)][i] = spare
	}
	spoilElements(h.k.B, h.k.A)
	spoilElements(h.c.C...)
	clear(h.c.C[:cap(h.c.C)])
}

func (a answer) isAs(b answer) bool {
	return a.level == b.level && sameCipher(a.c, b.c) && slices.Equal(a.text, b.text) && slices.Equal(a.noise, b.noise) && a.err == b.err
}

// handed are such as are taken, of two parts and of three, of all levels, and such as are refused. Some of the primes fall.
func handed() []hand {
	var list []hand
	for _, p := range []api.Params{example(), paramsOf(8, 17, 2, 97), paramsOf(8, 17, 2, 193, 113, 97), paramsOf(8, 97, 3, 17), paramsOf(16, 97, 3, primesBelow(16, primeEnd, 3)...)} {
		for level := range p.Q {
			for _, parts := range []int{1, 2, 3} {
				list = append(list, roomyHand(handOf(p, parts, level)))
			}
		}
	}
	short, beyond, wrong, key := list[1], list[2], list[4], list[5]
	short.text, short.s = short.text[1:], short.s[1:]
	beyond.text, beyond.s = slices.Repeat([]uint64{17}, 8), slices.Repeat([]int64{2}, 8)
	wrong.p.Width = 0
	key.k.A.R = key.k.A.R[:1]
	return append(list, short, beyond, wrong, key)
}

func TestWhatIsHandedInStays(t *testing.T) {
	words := (&mixer{state: 9}).draws(200)
	for i, h := range handed() {
		for _, c := range calls() {
			for _, count := range []int{0, 20, 200} {
				given := roomy(words[:count], spare, spare)
				wasGiven, was := slices.Clone(given[:cap(given)]), allOf(h)
				h.tape = tape.New(given)
				answer := c.do(h)
				if !slices.Equal(allOf(h), was) || !slices.Equal(given[:cap(given)], wasGiven) {
					t.Error("changed", c.name, i, count)
				}
				answer.spoil()
				if !slices.Equal(allOf(h), was) || !slices.Equal(given[:cap(given)], wasGiven) {
					t.Error("shared", c.name, i, count)
				}
			}
		}
	}
}

// What is answered may be written over: no other answer is changed, nor is an answer by what was handed in.
func TestWhatIsAnsweredIsNew(t *testing.T) {
	words := (&mixer{state: 9}).draws(200)
	for i := range handed() {
		for _, c := range calls() {
			h := handed()[i]
			do := func() answer {
				h.tape = tape.New(words)
				return c.do(h)
			}
			first, second, third := do(), do(), do()
			h.spoil()
			if !first.isAs(second) {
				t.Error("unlike", c.name, i)
			}
			first.spoil()
			if !second.isAs(third) {
				t.Error("shared", c.name, i)
			}
			// Nor does what comes of the same arguments once more hang on what was answered.
			h = handed()[i]
			if again := do(); !again.isAs(third) {
				t.Error("kept", c.name, i)
			}
		}
	}
}

// No two lists of a ciphertext share memory, not in their spare room either.
func TestListsOfAnAnswerStandAlone(t *testing.T) {
	for i, h := range handed() {
		h.tape = tape.New(make([]uint64, 3*h.p.N))
		c := calls()[1].do(h).c
		var lists [][]uint64
		for _, a := range c.C {
			lists = append(lists, a.R...)
		}
		for number, list := range lists {
			for at := range list[:cap(list)] {
				list[:cap(list)][at] = uint64(number)
			}
		}
		for number, list := range lists {
			if slices.ContainsFunc(list[:cap(list)], func(v uint64) bool { return v != uint64(number) }) {
				t.Error(i, number)
			}
		}
		for number, a := range c.C {
			for at := range a.R[:cap(a.R)] {
				a.R[:cap(a.R)][at] = make([]uint64, number)
			}
		}
		for number, a := range c.C {
			for _, list := range a.R[:cap(a.R)] {
				if len(list) != number {
					t.Error("an element's lists", i, number)
				}
			}
		}
	}
}
