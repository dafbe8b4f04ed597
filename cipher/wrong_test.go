package cipher_test

import (
	"math"
	"slices"
	"strconv"
	"testing"

	"arras/api"
	"arras/cipher"
	"arras/tape"
)

// hand is all that a call may be handed.
type hand struct {
	p    api.Params
	k    api.Public
	s    []int64
	c    api.Cipher
	text []uint64
	tape *tape.Tape
}

// answer is all that a call told.
type answer struct {
	level int
	c     api.Cipher
	text  []uint64
	noise api.Nat
	err   api.Errno
}

// call is one of the chapter's, and what it is handed.
type call struct {
	name                               string
	hasKey, hasSecret, hasText, hasOne bool // hasOne: a ciphertext
	do                                 func(h hand) answer
}

func calls() []call {
	return []call{
		{name: "Level", hasOne: true, do: func(h hand) answer {
			level, err := cipher.Level(h.p, h.c)
			return answer{level: level, err: err}
		}},
		{name: "Hide", hasKey: true, hasText: true, do: func(h hand) answer {
			c, err := cipher.Hide(h.p, h.k, h.text, h.tape)
			return answer{c: c, err: err}
		}},
		{name: "Tell", hasSecret: true, hasOne: true, do: func(h hand) answer {
			text, err := cipher.Tell(h.p, h.s, h.c)
			return answer{text: text, err: err}
		}},
		{name: "Noise", hasSecret: true, hasOne: true, hasText: true, do: func(h hand) answer {
			noise, err := cipher.Noise(h.p, h.s, h.c, h.text)
			return answer{noise: noise, err: err}
		}},
	}
}

// handOf is what all calls take, with enough draws.
func handOf(p api.Params, parts, level int) hand {
	x := &mixer{state: p.T}
	return hand{p: p, k: x.public(p), s: x.secret(p.N), c: x.cipher(p, parts, level), text: x.numbers(p.N, p.T), tape: tape.New(make([]uint64, 3*p.N))}
}

// goodHand is one of two parts of the highest level.
func goodHand(p api.Params) hand { return handOf(p, 2, len(p.Q)-1) }

func refused(t *testing.T, what string, got answer, want api.Errno) {
	t.Helper()
	if got.err != want || got.level != 0 || len(got.c.C) != 0 || len(got.text) != 0 || len(got.noise) != 0 {
		t.Error(what, got, want)
	}
}

// tried are parameters of one prime, of some, of as many as may be, and of many coefficients.
func tried() []api.Params {
	return []api.Params{example(), paramsOf(8, 97, 1, 17), paramsOf(16, 97, 16, leastPrimes(16, 9)[1:]...), paramsOf(32, 193, 2, primesBelow(32, primeEnd, 3)...), great()[3]}
}

// wrongParams have one condition of the parameters broken at a time.
func wrongParams() []api.Params {
	return []api.Params{
		{},
		{N: 4, T: 17, Q: []uint64{97, 193}, Width: 2},
		{N: 0, T: 17, Q: []uint64{97, 193}, Width: 2},
		{N: -8, T: 17, Q: []uint64{97, 193}, Width: 2},
		{N: 12, T: 97, Q: []uint64{193}, Width: 2},
		{N: 512, T: 12289, Q: []uint64{13313}, Width: 2},
		{N: 8192, T: 65537, Q: []uint64{114689}, Width: 2},
		{N: math.MinInt, T: 17, Q: []uint64{97, 193}, Width: 2},
		{N: math.MaxInt, T: 17, Q: []uint64{97, 193}, Width: 2},
		{N: 8, T: 0, Q: []uint64{97, 193}, Width: 2},
		{N: 8, T: 33, Q: []uint64{97, 193}, Width: 2},
		{N: 8, T: 41, Q: []uint64{97, 193}, Width: 2},
		{N: 8, T: 193, Q: []uint64{97, 193}, Width: 2},
		{N: 8, T: primesBelow(8, api.MaxT+1000, 1)[0], Q: []uint64{97, 193}, Width: 2},
		{N: 8, T: 17, Width: 2},
		{N: 8, T: 17, Q: []uint64{}, Width: 2},
		{N: 8, T: 17, Q: []uint64{0}, Width: 2},
		{N: 8, T: 17, Q: []uint64{97, 97}, Width: 2},
		{N: 8, T: 17, Q: []uint64{97, 161}, Width: 2},
		{N: 8, T: 17, Q: []uint64{97, 101}, Width: 2},
		{N: 8, T: 17, Q: []uint64{primesBelow(8, primeEnd+1000, 1)[0]}, Width: 2},
		{N: 8, T: 17, Q: leastPrimes(8, api.MaxPrimes+2)[1:], Width: 2},
		{N: 8, T: 17, Q: []uint64{97, 193}},
		{N: 8, T: 17, Q: []uint64{97, 193}, Width: -1},
		{N: 8, T: 17, Q: []uint64{97, 193}, Width: api.MaxError + 1},
		{N: 1024, T: 12289, Q: primesBelow(1024, 1<<28, 1), Width: 2},
		{N: api.MaxN, T: 40961, Q: primesBelow(api.MaxN, 1<<37, 3), Width: 2},
	}
}

func TestWrongParameters(t *testing.T) {
	for _, c := range calls() {
		for _, p := range wrongParams() {
			h := goodHand(example())
			h.p = p
			refused(t, c.name+" "+name(p), c.do(h), api.ErrParam)
			if h.tape.Left() != 24 {
				t.Error("draws were taken", c.name, name(p))
			}
			// As many numbers as these parameters ask for make no difference.
			if p.N > 0 && p.N <= 2*api.MaxN && p.T > 0 && len(p.Q) > 0 && p.Q[0] > 0 {
				h = goodHand(p)
				h.p = p
				refused(t, c.name+" "+name(p), c.do(h), api.ErrParam)
			}
		}
	}
}

// wrongElements are what is no element of a level, made of one that is: by faults of its lists, and of one list.
func wrongElements(p api.Params, a api.Poly) map[string]api.Poly {
	top := len(a.R) - 1
	list := map[string]api.Poly{"no lists": {}, "empty lists": {R: [][]uint64{}}, "lists too many": {R: slices.Concat(a.R, make([][]uint64, len(p.Q)+1))}}
	for place := range a.R {
		q := p.Q[place]
		faults := map[string][]uint64{"no numbers": nil, "too short": a.R[place][1:], "too long": append(slices.Clone(a.R[place]), 0), "twice as long": append(slices.Clone(a.R[place]), a.R[place]...)}
		for _, at := range []int{0, p.N / 2, p.N - 1} {
			for _, v := range []uint64{q, q + 1, 1 << 63, most} {
				beyond := slices.Clone(a.R[place])
				beyond[at] = v
				faults["beyond "+strconv.Itoa(at)+" "+strconv.FormatUint(v, 10)] = beyond
			}
		}
		for what, numbers := range faults {
			wrong := api.Poly{R: slices.Clone(a.R)}
			wrong.R[place] = numbers
			list["list "+strconv.Itoa(place)+" of "+strconv.Itoa(top)+" "+what] = wrong
		}
	}
	return list
}

// noCiphertexts are of too few parts or too many, of unlike levels, or have a part that is no element.
func noCiphertexts(p api.Params) map[string]api.Cipher {
	x := &mixer{state: p.T}
	list := map[string]api.Cipher{"none": {}, "empty": {C: []api.Poly{}}}
	for level := range p.Q {
		for _, parts := range []int{1, 4, 5, 100} {
			list[strconv.Itoa(parts)+" parts of level "+strconv.Itoa(level)] = x.cipher(p, parts, level)
		}
		for _, parts := range []int{2, 3} {
			for at := range parts {
				what := "part " + strconv.Itoa(at) + " of " + strconv.Itoa(parts) + " of level " + strconv.Itoa(level) + " "
				put := func(fault string, a api.Poly) {
					c := x.cipher(p, parts, level)
					c.C[at] = a
					list[what+fault] = c
				}
				for other := range p.Q {
					if other != level {
						put("has level "+strconv.Itoa(other), x.element(p.N, p.Q[:other+1]))
					}
				}
				for fault, a := range wrongElements(p, x.element(p.N, p.Q[:level+1])) {
					if p.N <= 16 || at == parts-1 {
						put(fault, a)
					}
				}
			}
		}
	}
	return list
}

func TestNoCiphertexts(t *testing.T) {
	t.Parallel()
	for _, p := range tried() {
		list := noCiphertexts(p)
		for _, c := range calls() {
			if !c.hasOne {
				continue
			}
			for what, one := range list {
				h := goodHand(p)
				h.c = one
				refused(t, c.name+" "+name(p)+" "+what, c.do(h), api.ErrForm)
			}
		}
	}
}

// A ciphertext of elements of level 0 is one, of parameters of more primes too.
func TestCiphertextsOfLevelNought(t *testing.T) {
	for _, p := range tried() {
		for _, parts := range []int{2, 3} {
			for _, c := range calls() {
				if got := c.do(handOf(p, parts, 0)); got.err != api.OK || got.level != 0 && c.name == "Level" {
					t.Error(c.name, name(p), parts, got.err)
				}
			}
		}
	}
}

// noTexts are too short, too long, or have a coefficient that is T or more.
func noTexts(p api.Params) [][]uint64 {
	list := [][]uint64{nil, {}, {1}, make([]uint64, p.N-1), make([]uint64, p.N+1), make([]uint64, 2*p.N), make([]uint64, p.N/2)}
	for _, at := range []int{0, 1, p.N / 2, p.N - 1} {
		for _, v := range []uint64{p.T, p.T + 1, 2 * p.T, api.MaxT, 1 << 32, 1 << 63, most, most - p.T} {
			text := slices.Repeat([]uint64{p.T - 1, 0}, p.N/2)
			text[at] = v
			list = append(list, text)
		}
	}
	return list
}

func TestNoTexts(t *testing.T) {
	for _, p := range tried() {
		for _, c := range calls() {
			if !c.hasText {
				continue
			}
			for i, text := range noTexts(p) {
				h := goodHand(p)
				h.text = text
				refused(t, c.name+" "+name(p)+" text "+strconv.Itoa(i), c.do(h), api.ErrForm)
				if h.tape.Left() != 3*p.N {
					t.Error("draws were taken", c.name, name(p), i)
				}
			}
		}
	}
}

// noSecrets are too short, too long, or have a number beside 0, 1 and -1.
func noSecrets(n int) [][]int64 {
	list := [][]int64{nil, {}, {1}, make([]int64, n-1), make([]int64, n+1), make([]int64, 2*n), make([]int64, n/2)}
	for _, at := range []int{0, 1, n / 2, n - 1} {
		for _, v := range []int64{2, -2, 3, math.MaxInt64, math.MinInt64, 1 << 32, 1<<32 + 1, -1 << 32, 96, 97} {
			s := slices.Repeat([]int64{1, 0, -1, 0}, n/4)
			s[at] = v
			list = append(list, s)
		}
	}
	return list
}

func TestNoSecrets(t *testing.T) {
	for _, p := range tried() {
		for _, c := range calls() {
			if !c.hasSecret {
				continue
			}
			for i, s := range noSecrets(p.N) {
				h := goodHand(p)
				h.s = s
				refused(t, c.name+" "+name(p)+" secret "+strconv.Itoa(i), c.do(h), api.ErrForm)
			}
		}
	}
}

// An element of the key that isn't of the top level, or is none.
func TestWrongKeys(t *testing.T) {
	for _, p := range tried() {
		x := &mixer{state: p.T}
		wrong := wrongElements(p, x.element(p.N, p.Q))
		for level := range len(p.Q) - 1 {
			wrong["level "+strconv.Itoa(level)] = x.element(p.N, p.Q[:level+1])
		}
		for what, a := range wrong {
			for side := range 3 {
				h := goodHand(p)
				h.k.A, h.k.B = []api.Poly{a, h.k.A, a}[side], []api.Poly{h.k.B, a, a}[side]
				got, err := cipher.Hide(h.p, h.k, h.text, h.tape)
				refused(t, name(p)+" "+what, answer{c: got, err: err}, api.ErrKey)
				if h.tape.Left() != 3*p.N {
					t.Error("draws were taken", name(p), what)
				}
			}
		}
		h := goodHand(p)
		got, err := cipher.Hide(h.p, api.Public{}, h.text, h.tape)
		refused(t, name(p)+" no key", answer{c: got, err: err}, api.ErrKey)
	}
}

func TestNilTape(t *testing.T) {
	for _, p := range tried() {
		h := goodHand(p)
		c, err := cipher.Hide(h.p, h.k, h.text, nil)
		refused(t, name(p), answer{c: c, err: err}, api.ErrArg)
	}
}

// Each number of draws short of what is needed is too few: all of them are taken, and the tape tells no more. What it told ahead of that stays as it was.
func TestTapesThatRunOut(t *testing.T) {
	for _, p := range []api.Params{example(), paramsOf(8, 97, 1, 17), paramsOf(32, 193, 2, leastPrimes(32, 4)[1:]...)} {
		h := goodHand(p)
		for count := range 3 * p.N {
			draws := tape.New(make([]uint64, 3*p.N+count))
			told, err := cipher.Hide(p, h.k, h.text, draws)
			was, _ := hiddenOf(p, h.k, h.text, tape.New(make([]uint64, 3*p.N)))
			if err != api.OK || draws.Left() != count {
				t.Error(name(p), count, err, draws.Left())
			}
			for range 2 {
				c, err := cipher.Hide(p, h.k, h.text, draws)
				refused(t, name(p)+" of "+strconv.Itoa(count), answer{c: c, err: err}, api.ErrTape)
				if _, err := draws.Ternary(); err != api.ErrTape || draws.Left() != 0 {
					t.Error("it tells more", name(p), count, err)
				}
			}
			if !sameCipher(told, was) {
				t.Error("what was told has changed", name(p), count)
			}
		}
		for _, more := range []int{0, 1, 5} {
			draws := tape.New(make([]uint64, 3*p.N+more))
			if c, err := cipher.Hide(p, h.k, h.text, draws); err != api.OK || len(c.C) != 2 || draws.Left() != more {
				t.Error("enough", name(p), err, draws.Left())
			}
		}
	}
}

// A draw that no ternary number takes is one more that is needed.
func TestDrawsThatArePassedBy(t *testing.T) {
	h := goodHand(example())
	words := append([]uint64{most, 3}, make([]uint64, 24)...)
	c, err := cipher.Hide(h.p, h.k, h.text, tape.New(words[:25]))
	refused(t, "short", answer{c: c, err: err}, api.ErrTape)
	enough := tape.New(words)
	if _, err := cipher.Hide(h.p, h.k, h.text, enough); err != api.OK || enough.Left() != 0 {
		t.Error(err, enough.Left())
	}
}

// A tape that New didn't make has no draws.
func TestTapeOfNothing(t *testing.T) {
	h := goodHand(example())
	for _, draws := range []*tape.Tape{{}, tape.New(nil)} {
		c, err := cipher.Hide(h.p, h.k, h.text, draws)
		refused(t, "nothing", answer{c: c, err: err}, api.ErrTape)
	}
}

// Of all wrong things together the chapter's first one is told.
func TestOrderOfErrors(t *testing.T) {
	for _, c := range calls() {
		for faults := range 128 {
			h, want := goodHand(example()), api.OK
			if faults&1 != 0 && c.hasKey {
				h.tape, want = tape.New(make([]uint64, 23)), api.ErrTape
			}
			if faults&2 != 0 && c.hasKey {
				h.tape, want = nil, api.ErrArg
			}
			if faults&4 != 0 && c.hasKey {
				h.k.A.R, want = h.k.A.R[:1], api.ErrKey
			}
			if faults&8 != 0 && c.hasText {
				h.text, want = h.text[1:], api.ErrForm
			}
			if faults&16 != 0 && c.hasSecret {
				h.s, want = h.s[1:], api.ErrForm
			}
			if faults&32 != 0 && c.hasOne {
				h.c.C, want = h.c.C[1:], api.ErrForm
			}
			if faults&64 != 0 {
				h.p.Width, want = 0, api.ErrParam
			}
			what := c.name + " " + strconv.Itoa(faults)
			if got := c.do(h); want != api.OK {
				refused(t, what, got, want)
			} else if got.err != api.OK {
				t.Error(what, got.err)
			}
		}
	}
}

// What is right of some parameters is none of others, whose primes, numbers or T are other ones.
func TestOfOtherParameters(t *testing.T) {
	h := goodHand(paramsOf(8, 17, 2, 113, 193))
	for level := range 2 {
		h.c = (&mixer{}).cipher(h.p, 2, level)
		for i := range h.c.C {
			h.c.C[i].R[0][0] = 112
		}
		h.p = paramsOf(8, 17, 2, 97, 193)
		for _, c := range calls() {
			if c.hasOne {
				refused(t, c.name, c.do(h), api.ErrForm)
			}
		}
		h.p = paramsOf(16, 97, 2, 113, 193)
		for _, c := range calls() {
			if c.name != "Hide" {
				refused(t, c.name, c.do(h), api.ErrParam)
			}
		}
		h.p = paramsOf(16, 97, 2, 193, 257)
		for _, c := range calls() {
			refused(t, c.name, c.do(h), api.ErrForm)
		}
		h.p = paramsOf(8, 17, 2, 113, 193)
	}
}

// A call that is refused ahead of its draws changes no later one.
func TestRefusalsChangeNothing(t *testing.T) {
	h := goodHand(example())
	words := (&mixer{}).draws(100)
	draws, want := tape.New(words), tape.New(words)
	cipher.Hide(api.Params{}, h.k, h.text, draws)
	cipher.Hide(h.p, h.k, nil, draws)
	cipher.Hide(h.p, api.Public{}, h.text, draws)
	c, err := cipher.Hide(h.p, h.k, h.text, draws)
	wanted, _ := hiddenOf(h.p, h.k, h.text, want)
	if err != api.OK || !sameCipher(c, wanted) || draws.Left() != want.Left() {
		t.Error(err)
	}
}
