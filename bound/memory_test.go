package bound_test

import (
	"slices"
	"testing"

	"arras/api"
	"arras/bound"
)

const spare = 0x5a5a5a5a5a5a5a5a

// roomy is words with spare room behind them.
func roomy(list []uint64) []uint64 {
	return append(slices.Clone(list), spare, spare, spare)[:len(list)]
}

// handed are such as are taken, at all levels, and such as are refused: bounds of 0, of one word, of many, and with last words that are 0.
func handed() []hand {
	var list []hand
	for _, p := range []api.Params{example(), paramsOf(8, 17, 2, 97), paramsOf(16, 97, 3, primesBelow(16, primeEnd, 3)...)} {
		for level := -1; level <= len(p.Q); level++ {
			for i, a := range []api.Nat{nil, {5}, {1, 2, 3}, {0, 0, 1 << 63}, {9, 0, 0}, {0, 0}} {
				h := goodHand(p)
				h.level, h.parts, h.a, h.b = level, 1+i%3, a, []api.Nat{{1}, nil, {0}, {mostWord, mostWord}}[i%4]
				list = append(list, h)
			}
		}
	}
	short := goodHand(example())
	short.text = short.text[1:]
	wrong := goodHand(example())
	wrong.p.Width = 0
	return append(list, short, wrong)
}

func roomyHand(h hand) hand {
	h.p.Q, h.a, h.b, h.text = roomy(h.p.Q), roomy(h.a), roomy(h.b), roomy(h.text)
	return h
}

// words are all that is handed in, spare room too.
func (h hand) words() []uint64 {
	return slices.Concat(h.p.Q[:cap(h.p.Q)], h.a[:cap(h.a)], h.b[:cap(h.b)], h.text[:cap(h.text)])
}

func spoil(lists ...[]uint64) {
	for _, list := range lists {
		list = list[:cap(list)]
		for i := range list {
			list[i] ^= spare
		}
	}
}

func TestWhatIsHandedInStays(t *testing.T) {
	for i, h := range handed() {
		for _, c := range calls() {
			h := roomyHand(h)
			was := h.words()
			answer, _ := c.do(h)
			bound.Fits(h.p, h.level, h.a)
			if !slices.Equal(h.words(), was) {
				t.Error("changed", c.name, i)
			}
			spoil(answer)
			if !slices.Equal(h.words(), was) {
				t.Error("shared", c.name, i)
			}
		}
	}
}

// What is answered may be written over: no other answer is changed, nor is an answer by what was handed in.
func TestWhatIsAnsweredIsNew(t *testing.T) {
	for i, h := range handed() {
		for _, c := range calls() {
			given := roomyHand(h)
			first, err := c.do(given)
			second, _ := c.do(given)
			third, _ := c.do(given)
			spoil(given.p.Q, given.a, given.b, given.text)
			if !slices.Equal(first, second) {
				t.Error("unlike", c.name, i)
			}
			spoil(first)
			if !slices.Equal(second, third) {
				t.Error("shared", c.name, i)
			}
			if again, errAgain := c.do(roomyHand(h)); !slices.Equal(again, third) || errAgain != err {
				t.Error("kept", c.name, i)
			}
		}
	}
}

// One bound may be handed in twice.
func TestOneBoundTwice(t *testing.T) {
	p := example()
	f := factsOf(p, 1)
	a := power(64, 5)
	words := told(a)
	got, err := bound.Add(p, 1, words, words)
	right(t, "Add", got, err, f.add(a, a))
	got, err = bound.Mul(p, 1, words, words)
	right(t, "Mul", got, err, f.mul(a, a))
}
