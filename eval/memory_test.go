package eval_test

import (
	"slices"
	"strconv"
	"testing"

	"arras/api"
	"arras/eval"
)

const spare = 0x5a5a5a5a5a5a5a5a

// roomy is a list with spare room behind it.
func roomy[Entry any](list []Entry, more ...Entry) []Entry {
	return append(slices.Clone(list), more...)[:len(list)]
}

// roomyPoly is an element with spare room behind its lists, and behind each of them.
func roomyPoly(a api.Poly) api.Poly {
	lists := make([][]uint64, len(a.R))
	for place, list := range a.R {
		lists[place] = roomy(list, spare, spare)
	}
	return api.Poly{R: roomy(lists, []uint64{spare}, []uint64{spare, spare})}
}

// roomyRow is a row of elements with spare room everywhere, in which there are elements too.
func roomyRow(row []api.Poly) []api.Poly {
	elements := make([]api.Poly, len(row))
	for i, a := range row {
		elements[i] = roomyPoly(a)
	}
	x := &mixer{}
	return roomy(elements, roomyPoly(x.element(8, []uint64{97, 193})), roomyPoly(x.element(4, []uint64{97})))
}

func roomyHand(h hand) hand {
	return hand{
		a:    api.Cipher{C: roomyRow(h.a.C)},
		b:    api.Cipher{C: roomyRow(h.b.C)},
		text: roomy(h.text, spare, spare),
		step: h.step,
		k:    api.Switch{B: roomyRow(h.k.B), A: roomyRow(h.k.A)},
	}
}

// wordsOf are all words of rows of elements, spare room and lengths too.
func wordsOf(rows ...[]api.Poly) []uint64 {
	var list []uint64
	for _, row := range rows {
		list = append(list, uint64(len(row)))
		for _, a := range row[:cap(row)] {
			list = append(list, uint64(len(a.R)))
			for _, one := range a.R[:cap(a.R)] {
				list = append(append(list, one[:cap(one)]...), uint64(len(one)))
			}
		}
	}
	return list
}

func (h hand) words() []uint64 {
	return append(wordsOf(h.a.C, h.b.C, h.k.B, h.k.A), h.text[:cap(h.text)]...)
}

// spoil writes over rows of elements and all their spare room, from the numbers up to the rows.
func spoil(rows ...[]api.Poly) {
	for _, row := range rows {
		for _, a := range row[:cap(row)] {
			for _, list := range a.R[:cap(a.R)] {
				list = list[:cap(list)]
				for i := range list {
					list[i] ^= spare
				}
			}
			clear(a.R[:cap(a.R)])
		}
		clear(row[:cap(row)])
	}
}

func (h hand) spoil() {
	spoil(h.a.C, h.b.C, h.k.B, h.k.A)
	for i := range h.text[:cap(h.text)] {
		h.text[:cap(h.text)][i] = spare
	}
}

func memories() []api.Params {
	return []api.Params{example(), paramsOf(8, 17, 2, 97), paramsOf(8, 17, 2, 193, 113, 97), paramsOf(8, 97, 3, 17), paramsOf(16, 97, 3, primesBelow(16, primeEnd, 3)...)}
}

// handed are such as are taken, of two parts and of three, of all levels, and such as are refused. Some of the primes fall.
func handed(p api.Params) []hand {
	var list []hand
	for level := range p.Q {
		for _, parts := range []int{1, 2, 3} {
			list = append(list, handOf(p, parts, level))
		}
	}
	wrong, unlike, other := handOf(p, 3, 0), handOf(p, 2, len(p.Q)-1), handOf(p, 3, len(p.Q)-1)
	wrong.text, wrong.k.A = wrong.text[1:], wrong.k.A[1:]
	unlike.b, unlike.step = handOf(p, 2, 0).b, -5
	other.b = handOf(p, 2, len(p.Q)-1).b
	again := handOf(p, 2, 0)
	again.b = handOf(p, 3, 0).b
	return append(list, wrong, unlike, other, again)
}

// overHanded goes over all calls and all that they are handed.
func overHanded(t *testing.T, do func(what string, v *eval.Eval, c call, h func() hand)) {
	for _, p := range memories() {
		v := evalOf(t, p)
		for _, c := range calls() {
			for i := range handed(p) {
				do(c.name+" "+name(p)+" "+strconv.Itoa(i), v, c, func() hand { return roomyHand(handed(p)[i]) })
			}
		}
	}
}

func TestWhatIsHandedInStays(t *testing.T) {
	overHanded(t, func(what string, v *eval.Eval, c call, fresh func() hand) {
		h := fresh()
		was := h.words()
		answer, _ := c.do(v, h)
		if !slices.Equal(h.words(), was) {
			t.Error("changed", what)
		}
		spoil(answer.C)
		if !slices.Equal(h.words(), was) {
			t.Error("shared", what)
		}
	})
}

// What is answered may be written over: no other answer is changed, nor is an answer by what was handed in.
func TestWhatIsAnsweredIsNew(t *testing.T) {
	overHanded(t, func(what string, v *eval.Eval, c call, fresh func() hand) {
		h := fresh()
		first, err := c.do(v, h)
		second, _ := c.do(v, h)
		third, _ := c.do(v, h)
		h.spoil()
		if !sameCipher(first, second) {
			t.Error("unlike", what)
		}
		spoil(first.C)
		if !sameCipher(second, third) {
			t.Error("shared", what)
		}
		// Nor does what comes of the same arguments once more hang on what was answered.
		if again, errAgain := c.do(v, fresh()); !sameCipher(again, third) || errAgain != err {
			t.Error("kept", what)
		}
	})
}

// No two lists of an answer share memory, not in their spare room either.
func TestListsOfAnAnswerStandAlone(t *testing.T) {
	overHanded(t, func(what string, v *eval.Eval, c call, fresh func() hand) {
		answer, _ := c.do(v, fresh())
		var lists [][]uint64
		for _, a := range answer.C {
			lists = append(lists, a.R...)
		}
		for number, list := range lists {
			for at := range list[:cap(list)] {
				list[:cap(list)][at] = uint64(number)
			}
		}
		for number, list := range lists {
			if slices.ContainsFunc(list[:cap(list)], func(v uint64) bool { return v != uint64(number) }) {
				t.Error("numbers", what, number)
			}
		}
		for number, a := range answer.C {
			for at := range a.R[:cap(a.R)] {
				a.R[:cap(a.R)][at] = make([]uint64, number)
			}
		}
		for number, a := range answer.C {
			for _, list := range a.R[:cap(a.R)] {
				if len(list) != number {
					t.Error("lists", what, number)
				}
			}
		}
	})
}

// One ciphertext, one element, one list may be handed in more than once.
func TestOneThingTwice(t *testing.T) {
	p := paramsOf(8, 17, 2, 97, 193)
	v := evalOf(t, p)
	one := make([]uint64, p.N)
	for i := range one {
		one[i] = uint64(i * 13 % 97)
	}
	a := api.Poly{R: [][]uint64{one, one}}
	two, three, k := parts(a, a), parts(a, a, a), api.Switch{B: []api.Poly{a, a}, A: []api.Poly{a, a}}
	got, err := v.Add(three, three)
	right(t, "Add", got, err, addOf(p, three, three))
	got, err = v.Mul(two, two)
	right(t, "Mul", got, err, mulOf(p, two, two))
	got, err = v.Relin(three, k)
	right(t, "Relin", got, err, relinOf(p, three, k))
	got, err = v.Turn(two, 1, k)
	right(t, "Turn", got, err, turnOf(p, two, 1, k))
	got, err = v.Lower(three)
	right(t, "Lower", got, err, lowerOf(p, three))
}

// rightOf holds all calls of an eval against the reckoning of parameters.
func rightOf(t *testing.T, what string, v *eval.Eval, p api.Params) {
	t.Helper()
	two, three := handOf(p, 2, len(p.Q)-1), handOf(p, 3, len(p.Q)-1)
	got, err := v.Add(two.a, three.b)
	right(t, "Add "+what, got, err, addOf(p, two.a, three.b))
	got, err = v.AddText(three.a, three.text)
	right(t, "AddText "+what, got, err, addTextOf(p, three.a, three.text))
	got, err = v.MulText(three.a, three.text)
	right(t, "MulText "+what, got, err, mulTextOf(p, three.a, three.text))
	got, err = v.Mul(two.a, two.b)
	right(t, "Mul "+what, got, err, mulOf(p, two.a, two.b))
	got, err = v.Relin(three.a, three.k)
	right(t, "Relin "+what, got, err, relinOf(p, three.a, three.k))
	got, err = v.Turn(two.a, 3, two.k)
	right(t, "Turn "+what, got, err, turnOf(p, two.a, 3, two.k))
	if len(p.Q) > 1 {
		got, err = v.Lower(three.a)
		right(t, "Lower "+what, got, err, lowerOf(p, three.a))
	}
}

// An eval does not change when the parameters that it was made of are written over.
func TestParametersAreNotKept(t *testing.T) {
	for _, one := range memories() {
		room := append(slices.Clone(one.Q), spare, spare)
		was := slices.Clone(room)
		p := paramsOf(one.N, one.T, one.Width, room[:len(one.Q)]...)
		v := evalOf(t, p)
		if !slices.Equal(room, was) {
			t.Error("changed", name(one))
		}
		for i := range room {
			room[i] = 193
		}
		p.N, p.T, p.Q, p.Width = 16, 353, nil, 0
		rightOf(t, name(one), v, one)
	}
}

// Evals don't hang on one another, nor on what they were asked ahead.
func TestEvalsStandAlone(t *testing.T) {
	list := memories()
	var evals []*eval.Eval
	for _, p := range list {
		evals = append(evals, evalOf(t, p))
	}
	for range 2 {
		for i, p := range list {
			rightOf(t, name(p), evals[i], p)
		}
		*evals[0] = eval.Eval{}
		evals[0] = evalOf(t, list[0])
	}
}

// What is refused changes nothing of what an eval tells later.
func TestRefusalsChangeNothing(t *testing.T) {
	for _, p := range memories() {
		v := evalOf(t, p)
		for _, c := range calls() {
			for _, h := range handed(p) {
				c.do(v, h)
			}
			for faults := range 256 {
				if len(p.Q) > 1 {
					h, _ := faulty(p, c, faults)
					c.do(v, h)
				}
			}
		}
		rightOf(t, name(p), v, p)
	}
}
