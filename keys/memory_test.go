package keys_test

import (
	"slices"
	"testing"

	"arras/api"
	"arras/keys"
	"arras/tape"
)

const spare = 0x5a5a5a5a5a5a5a5a

// roomy is a list with spare room behind it.
func roomy[Entry any](list []Entry, more ...Entry) []Entry {
	return append(slices.Clone(list), more...)[:len(list)]
}

// hand is all that a call is handed, with spare room.
type hand struct {
	p     api.Params
	s     []int64
	steps []int
}

func handOf(p api.Params, s []int64, steps []int) hand {
	p.Q = roomy(p.Q, spare, spare)
	return hand{p, roomy(s, spare, spare, spare), roomy(steps, 1, spare)}
}

func (h hand) isAs(other hand) bool {
	return slices.Equal(h.p.Q[:cap(h.p.Q)], other.p.Q[:cap(other.p.Q)]) && slices.Equal(h.s[:cap(h.s)], other.s[:cap(other.s)]) && slices.Equal(h.steps[:cap(h.steps)], other.steps[:cap(other.steps)])
}

func (h hand) copied() hand {
	p := h.p
	p.Q = slices.Clone(h.p.Q[:cap(h.p.Q)])
	return hand{p, slices.Clone(h.s[:cap(h.s)]), slices.Clone(h.steps[:cap(h.steps)])}
}

// spoil writes over all that was handed in.
func (h hand) spoil() {
	for i := range h.p.Q[:cap(h.p.Q)] {
		h.p.Q[:cap(h.p.Q)][i] = 193
	}
	for i := range h.s[:cap(h.s)] {
		h.s[:cap(h.s)][i] = 7
	}
	for i := range h.steps[:cap(h.steps)] {
		h.steps[:cap(h.steps)][i] = 99
	}
}

// drawn are all lists of an answer, as they stand: of numbers, of elements' lists and of elements.
type drawn struct {
	secret []int64
	public api.Public
	keys   api.Keys
	err    api.Errno
}

func (d drawn) switches() []api.Switch {
	list := []api.Switch{d.keys.Relin}
	for _, turn := range d.keys.Turns {
		list = append(list, turn.Key)
	}
	return list
}

func (d drawn) elements() []api.Poly {
	list := []api.Poly{d.public.B, d.public.A}
	for _, k := range d.switches() {
		list = append(list, k.B...)
		list = append(list, k.A...)
	}
	return list
}

func (d drawn) lists() [][]uint64 {
	var list [][]uint64
	for _, a := range d.elements() {
		list = append(list, a.R...)
	}
	return list
}

func (d drawn) isAs(other drawn) bool {
	return slices.Equal(d.secret, other.secret) && samePublic(d.public, other.public) && sameKeys(d.keys, other.keys)
}

// spoil writes over all that an answer has, spare room too, from the numbers up to the rows of elements.
func (d drawn) spoil() {
	for i := range d.secret[:cap(d.secret)] {
		d.secret[:cap(d.secret)][i] = 5
	}
	for _, list := range d.lists() {
		list = list[:cap(list)]
		for i := range list {
			list[i] ^= spare
		}
	}
	for _, a := range d.elements() {
		clear(a.R[:cap(a.R)])
	}
	for _, k := range d.switches() {
		clear(k.B[:cap(k.B)])
		clear(k.A[:cap(k.A)])
	}
	clear(d.keys.Turns[:cap(d.keys.Turns)])
}

// drawings are the calls, each with its answer whole.
func drawings() map[string]func(h hand, t *tape.Tape) drawn {
	return map[string]func(h hand, t *tape.Tape) drawn{
		"Secret": func(h hand, t *tape.Tape) drawn {
			s, err := keys.Secret(h.p, t)
			return drawn{secret: s, err: err}
		},
		"Public": func(h hand, t *tape.Tape) drawn {
			k, err := keys.Public(h.p, h.s, t)
			return drawn{public: k, err: err}
		},
		"Relin": func(h hand, t *tape.Tape) drawn {
			k, err := keys.Relin(h.p, h.s, t)
			return drawn{keys: api.Keys{Relin: k}, err: err}
		},
		"Turn": func(h hand, t *tape.Tape) drawn {
			k, err := keys.Turn(h.p, h.s, h.steps[0], t)
			return drawn{keys: api.Keys{Relin: k}, err: err}
		},
		"All": func(h hand, t *tape.Tape) drawn {
			k, err := keys.All(h.p, h.s, h.steps, t)
			return drawn{keys: k, err: err}
		},
	}
}

// handed are such as are taken, and such as are refused.
func handed() []hand {
	third := paramsOf(16, 97, 3, leastPrimes(16, 4)[1:]...)
	return []hand{
		handOf(example(), goodSecret(), []int{1, 3}),
		handOf(paramsOf(8, 17, 2, 97), goodSecret(), []int{2}),
		handOf(paramsOf(8, 17, 2, 193, 113, 97), goodSecret(), []int{1}),
		handOf(third, secrets(16)[0], []int{1, 2, 3, 7}),
		handOf(paramsOf(8, 17, 2, 97, 97), goodSecret(), []int{1}),
		handOf(example(), make([]int64, 9), []int{1}),
		handOf(example(), goodSecret(), []int{0, 1}),
	}
}

// words are enough for all of them.
func words() []uint64 { return (&mixer{state: 9}).draws(3000) }

func TestWhatIsHandedInStays(t *testing.T) {
	for i, h := range handed() {
		for name, draw := range drawings() {
			was := h.copied()
			for _, count := range []int{0, 40, 3000} {
				given := roomy(words()[:count], spare, spare)
				wasGiven := slices.Clone(given[:cap(given)])
				answer := draw(h, tape.New(given))
				if !h.isAs(was) || !slices.Equal(given[:cap(given)], wasGiven) {
					t.Error("changed", name, i, count)
				}
				answer.spoil()
				if !h.isAs(was) || !slices.Equal(given[:cap(given)], wasGiven) {
					t.Error("shared", name, i, count)
				}
			}
		}
	}
}

// What is answered may be written over: no other answer is changed, nor is an answer by what was handed in.
func TestWhatIsAnsweredIsNew(t *testing.T) {
	for i := range handed() {
		for name, draw := range drawings() {
			h := handed()[i]
			first, second, third := draw(h, tape.New(words())), draw(h, tape.New(words())), draw(h, tape.New(words()))
			if first.err != api.OK {
				continue
			}
			h.spoil()
			if !first.isAs(second) {
				t.Error("unlike", name, i)
			}
			first.spoil()
			if !second.isAs(third) {
				t.Error("shared", name, i)
			}
			// Nor does what comes of the same arguments once more hang on what was answered.
			if again := draw(handed()[i], tape.New(words())); !again.isAs(third) {
				t.Error("kept", name, i)
			}
		}
	}
}

// What a tape tells later doesn't change what it told.
func TestTapesDontReachAnswers(t *testing.T) {
	h := handed()[0]
	for name, draw := range drawings() {
		draws := tape.New(words())
		first, want := draw(h, draws), draw(h, tape.New(words()))
		draw(h, draws).spoil()
		for draws.Left() > 0 {
			draws.Error(1)
		}
		if !first.isAs(want) {
			t.Error(name)
		}
	}
}

// No two lists of an answer share memory, not in their spare room either.
func TestListsOfAnAnswerStandAlone(t *testing.T) {
	for i, h := range handed() {
		for name, draw := range drawings() {
			answer := draw(h, tape.New(words()))
			lists := answer.lists()
			for number, list := range lists {
				list = list[:cap(list)]
				for at := range list {
					list[at] = uint64(number)
				}
			}
			for number, list := range lists {
				if slices.ContainsFunc(list[:cap(list)], func(v uint64) bool { return v != uint64(number) }) {
					t.Error(name, i, number)
				}
			}
			standAlone(t, name, answer)
		}
	}
}

// standAlone writes each element's lists, and each row of elements, over by what tells where it stands.
func standAlone(t *testing.T, name string, answer drawn) {
	t.Helper()
	elements := answer.elements()
	for number, a := range elements {
		for at := range a.R[:cap(a.R)] {
			a.R[:cap(a.R)][at] = make([]uint64, number+1)
		}
	}
	for number, a := range elements {
		for _, list := range a.R[:cap(a.R)] {
			if len(list) != number+1 {
				t.Error("an element's lists", name, number)
			}
		}
	}
	var rows [][]api.Poly
	for _, k := range answer.switches() {
		rows = append(rows, k.B[:cap(k.B)], k.A[:cap(k.A)])
	}
	for number, row := range rows {
		for at := range row {
			row[at] = api.Poly{R: make([][]uint64, number+1)}
		}
	}
	for number, row := range rows {
		for _, a := range row {
			if len(a.R) != number+1 {
				t.Error("a row of elements", name, number)
			}
		}
	}
}

// Right leaves what it is asked about as it was, its spare room too.
func TestRightLeavesSwitchesAsTheyWere(t *testing.T) {
	for _, p := range rights() {
		k := some(p)
		for _, row := range []*[]api.Poly{&k.B, &k.A} {
			for i, a := range *row {
				for place, list := range a.R {
					a.R[place] = roomy(list, spare, spare)
				}
				(*row)[i].R = roomy(a.R, []uint64{spare}, nil)
			}
			*row = roomy(*row, api.Poly{R: [][]uint64{{spare}}}, api.Poly{})
		}
		all := func() []uint64 {
			var list []uint64
			for _, a := range slices.Concat(k.B[:cap(k.B)], k.A[:cap(k.A)]) {
				for _, one := range a.R[:cap(a.R)] {
					list = append(append(list, one[:cap(one)]...), uint64(len(one)))
				}
			}
			return list
		}
		was := all()
		primes := roomy(p.Q, spare)
		asked := p
		asked.Q = primes
		if !keys.Right(asked, k) || !slices.Equal(all(), was) || !slices.Equal(primes, p.Q) || primes[:cap(primes)][len(p.Q)] != spare {
			t.Error(name(p))
		}
	}
}
