package pack_test

import (
	"math"
	"slices"
	"strconv"
	"testing"

	"arras/api"
)

// noParams have one condition broken at a time, by numbers too that can't be written at all.
func noParams() []api.Params {
	return append(wrongParams(), []api.Params{
		{N: -8, T: 17, Q: []uint64{97, 193}, Width: 2},
		{N: 1<<16 + 8, T: 17, Q: []uint64{97, 193}, Width: 2},
		{N: 1<<32 + 8, T: 17, Q: []uint64{97, 193}, Width: 2},
		{N: math.MinInt, T: 17, Q: []uint64{97, 193}, Width: 2},
		{N: math.MaxInt, T: 17, Q: []uint64{97, 193}, Width: 2},
		{N: 8, T: 1<<32 + 17, Q: []uint64{97, 193}, Width: 2},
		{N: 8, T: most, Q: []uint64{97, 193}, Width: 2},
		{N: 8, T: 17, Q: []uint64{97, 193}, Width: -1},
		{N: 8, T: 17, Q: []uint64{97, 193}, Width: 256 + 2},
		{N: 8, T: 17, Q: []uint64{97, 193}, Width: math.MinInt},
		{N: 8, T: 17, Q: slices.Repeat([]uint64{97}, 256+1), Width: 2},
	}...)
}

// ErrParam comes ahead of ErrForm: whether the parts go with the parameters isn't asked.
func TestWrongParametersToWrite(t *testing.T) {
	for _, p := range noParams() {
		for kind := params; kind <= keys; kind++ {
			refusedToWrite(t, "none", thing{kind: kind, p: p}, api.ErrParam)
		}
		for _, h := range oneOfEach(example()) {
			h.p = p
			refusedToWrite(t, "parts of others", h, api.ErrParam)
		}
		if p.N > 0 && p.N <= 2*api.MaxN && len(p.Q) > 0 && len(p.Q) < 20 && !slices.Contains(p.Q, 0) {
			x := &mixer{}
			for _, h := range []thing{x.cipher(p, 2, 0), x.public(p), x.secret(p), x.keys(p)} {
				refusedToWrite(t, "parts of these", h, api.ErrParam)
			}
		}
	}
}

// Of right parameters nothing at all is none of the others.
func TestNothingToWrite(t *testing.T) {
	for _, p := range []api.Params{example(), great()[2]} {
		for kind := cipher; kind <= keys; kind++ {
			refusedToWrite(t, "nothing", thing{kind: kind, p: p}, api.ErrForm)
		}
		if _, err := (thing{kind: params, p: p}).write(); err != api.OK {
			t.Error(err)
		}
	}
}

func TestPartsToWrite(t *testing.T) {
	for _, p := range []api.Params{example(), paramsOf(8, 97, 1, 17), great()[3]} {
		for level := range p.Q {
			for parts := range 7 {
				h := (&mixer{}).cipher(p, parts, level)
				if parts < 2 || parts > 3 {
					refusedToWrite(t, "parts", h, api.ErrForm)
				} else if _, err := h.write(); err != api.OK {
					t.Error(h.name(), err)
				}
			}
		}
	}
	h := (&mixer{}).cipher(example(), 2, 1)
	h.c.C = slices.Repeat(h.c.C, 129)
	refusedToWrite(t, "258 parts", h, api.ErrForm)
}

// All parts of a ciphertext are of one level.
func TestUnlikeLevelsToWrite(t *testing.T) {
	p, x := paramsOf(8, 17, 2, 97, 193, 113), &mixer{}
	for first := range 3 {
		for second := range 3 {
			for third := range 3 {
				h := x.cipher(p, 3, first)
				h.c.C[1], h.c.C[2] = x.element(p.N, p.Q[:second+1]), x.element(p.N, p.Q[:third+1])
				if first != second || second != third {
					refusedToWrite(t, "three "+strconv.Itoa(first)+strconv.Itoa(second)+strconv.Itoa(third), h, api.ErrForm)
				}
				h.c.C = h.c.C[:2]
				if first != second {
					refusedToWrite(t, "two "+strconv.Itoa(first)+strconv.Itoa(second), h, api.ErrForm)
				}
			}
		}
	}
}

// spoiltElements are what no element is, made of one of a level, each new.
func spoiltElements(p api.Params, a api.Poly) map[string]api.Poly {
	list := map[string]api.Poly{
		"none":     {},
		"no lists": {R: [][]uint64{}},
		"too many": {R: append(slices.Clone(a.R), slices.Repeat([][]uint64{make([]uint64, p.N)}, len(p.Q)+1-len(a.R))...)},
	}
	change := func(what string, place int, changed []uint64) {
		lists := slices.Clone(a.R)
		lists[place] = changed
		list[what+" list "+strconv.Itoa(place)] = api.Poly{R: lists}
	}
	for place, one := range a.R {
		q := p.Q[place]
		change("nil", place, nil)
		change("short", place, one[1:])
		change("half", place, one[:p.N/2])
		change("long", place, append(slices.Clone(one), 0))
		for _, at := range []int{0, p.N / 2, p.N - 1} {
			for _, v := range []uint64{q, q + 1, 1 << 63, most} {
				beyond := slices.Clone(one)
				beyond[at] = v
				change("beyond "+strconv.Itoa(at)+" "+strconv.FormatUint(v, 10), place, beyond)
			}
		}
	}
	return list
}

// elementsOf are where a thing's elements stand.
func elementsOf(h *thing) []*api.Poly {
	list := []*api.Poly{}
	for i := range h.c.C {
		list = append(list, &h.c.C[i])
	}
	if h.kind == public {
		list = append(list, &h.public.B, &h.public.A)
	}
	switches := []api.Switch{h.keys.Relin}
	for _, turn := range h.keys.Turns {
		switches = append(switches, turn.Key)
	}
	for _, k := range switches {
		for i := range k.B {
			list = append(list, &k.B[i], &k.A[i])
		}
	}
	return list
}

// One element of a ciphertext, a public key or keys is none: all others are right.
func TestNoElementsToWrite(t *testing.T) {
	x := &mixer{}
	for _, p := range []api.Params{example(), paramsOf(8, 97, 1, 17), paramsOf(16, 97, 3, leastPrimes(16, 4)[1:]...), great()[2]} {
		list := []thing{x.public(p), x.keys(p), x.keys(p, 1, p.N/2-1)}
		for level := range p.Q {
			list = append(list, x.cipher(p, 2, level), x.cipher(p, 3, level))
		}
		for _, h := range list {
			for i, element := range elementsOf(&h) {
				was := *element
				for what, spoilt := range spoiltElements(p, was) {
					*element = spoilt
					refusedToWrite(t, what+" of element "+strconv.Itoa(i), h, api.ErrForm)
				}
				*element = was
			}
			if _, err := h.write(); err != api.OK {
				t.Error(h.name(), err)
			}
		}
	}
}

// The elements of keys are of the top level.
func TestLowElementsToWrite(t *testing.T) {
	x := &mixer{}
	for _, p := range []api.Params{example(), paramsOf(16, 97, 3, leastPrimes(16, 4)[1:]...), great()[3]} {
		for _, h := range []thing{x.public(p), x.keys(p), x.keys(p, 1, 3)} {
			for i, element := range elementsOf(&h) {
				was := *element
				for level := range len(p.Q) - 1 {
					element.R = was.R[:level+1]
					refusedToWrite(t, "level "+strconv.Itoa(level)+" of element "+strconv.Itoa(i), h, api.ErrForm)
				}
				*element = was
			}
		}
		for level := range len(p.Q) - 1 {
			low := x.public(p)
			low.public.B.R, low.public.A.R = low.public.B.R[:level+1], low.public.A.R[:level+1]
			refusedToWrite(t, "both of level "+strconv.Itoa(level), low, api.ErrForm)
		}
	}
}

// Elements of other parameters are none of these.
func TestElementsOfOtherParameters(t *testing.T) {
	p := example()
	for _, other := range []api.Params{paramsOf(8, 17, 2, 193, 97), paramsOf(16, 97, 2, 193, 257), paramsOf(8, 17, 2, 97, 193, 113)} {
		for _, h := range oneOfEach(other)[1:] {
			h.p = p
			if h.kind != secret || other.N != p.N {
				refusedToWrite(t, "of other parameters", h, api.ErrForm)
			}
		}
	}
}

func TestNoSecretsToWrite(t *testing.T) {
	for _, p := range []api.Params{example(), paramsOf(8, 97, 1, 17), great()[4]} {
		n := p.N
		for _, s := range [][]int64{nil, {}, {1}, make([]int64, n-1), make([]int64, n+1), make([]int64, 2*n), make([]int64, n/2)} {
			refusedToWrite(t, "length "+strconv.Itoa(len(s)), thing{kind: secret, p: p, s: s}, api.ErrForm)
		}
		for _, at := range []int{0, 1, n / 2, n - 1} {
			for _, v := range []int64{2, -2, 3, -3, 255, 256, 257, -255, 1 << 32, 1<<32 + 1, -1 << 32, math.MaxInt64, math.MinInt64, 96} {
				s := slices.Repeat([]int64{1, 0, -1, 0}, n/4)
				s[at] = v
				refusedToWrite(t, "number "+strconv.FormatInt(v, 10), thing{kind: secret, p: p, s: s}, api.ErrForm)
			}
		}
	}
}

// Switches that have too few pairs, or too many, are not right, wherever they stand.
func TestNotRightToWrite(t *testing.T) {
	x := &mixer{}
	for _, p := range []api.Params{example(), paramsOf(8, 97, 1, 17), paramsOf(16, 97, 3, leastPrimes(16, 4)[1:]...)} {
		last := len(p.Q) - 1
		for what, change := range map[string]func(k *api.Switch){
			"none":            func(k *api.Switch) { *k = api.Switch{} },
			"no B":            func(k *api.Switch) { k.B = nil },
			"no A":            func(k *api.Switch) { k.A = nil },
			"a pair too few":  func(k *api.Switch) { k.B, k.A = k.B[:last], k.A[:last] },
			"a B too few":     func(k *api.Switch) { k.B = k.B[:last] },
			"an A too few":    func(k *api.Switch) { k.A = k.A[:last] },
			"a pair too many": func(k *api.Switch) { k.B, k.A = append(k.B, k.B[0]), append(k.A, k.A[0]) },
			"a B too many":    func(k *api.Switch) { k.B = append(k.B, k.B[0]) },
			"an A too many":   func(k *api.Switch) { k.A = append(k.A, k.A[0]) },
			"a B moved":       func(k *api.Switch) { k.B, k.A = k.B[:last], append(k.A, k.B[last]) },
		} {
			h := x.keys(p, 1, 2, 3)
			change(&h.keys.Relin)
			refusedToWrite(t, what+" of Relin", h, api.ErrForm)
			for i := range h.keys.Turns {
				h := x.keys(p, 1, 2, 3)
				change(&h.keys.Turns[i].Key)
				refusedToWrite(t, what+" of turn "+strconv.Itoa(i), h, api.ErrForm)
			}
		}
	}
}

// Steps that are right are from 1 to N/2 - 1, each greater than the one ahead of it.
func TestStepsToWrite(t *testing.T) {
	x := &mixer{}
	for n := 8; n <= api.MaxN; n *= 2 {
		if n == 512 {
			continue
		}
		p := paramsOf(n, leastPrimes(n, 1)[0], 2, leastPrimes(n, 2)[1:]...)
		for _, step := range []int{0, n / 2, n/2 + 1, n - 1, n, -1, -2, 1 - n/2, 1<<16 + 1, 1<<32 + 1, math.MinInt, math.MaxInt, math.MinInt + 1} {
			refusedToWrite(t, "step "+strconv.Itoa(step), x.keys(p, step), api.ErrForm)
			refusedToWrite(t, "1 and "+strconv.Itoa(step), x.keys(p, 1, step), api.ErrForm)
			refusedToWrite(t, strconv.Itoa(step)+" and one more", x.keys(p, step, n/2-1), api.ErrForm)
		}
		for _, step := range []int{1, 2, n/2 - 1} {
			if _, err := x.keys(p, step).write(); err != api.OK {
				t.Error(n, step, err)
			}
		}
	}
	p := paramsOf(16, 97, 2, 193)
	for _, steps := range [][]int{{1, 1}, {2, 1}, {7, 7}, {1, 2, 2}, {1, 3, 2}, {2, 3, 1}, {3, 2, 1}, {1, 2, 0}, {1, 2, 3, 4, 5, 6, 7, 8}, {1, 2, 3, 4, 5, 6, 7, 7}, {0, 1}, {-1, 1}, {-3, -2, -1}, {1, 2, 1, 2}} {
		refusedToWrite(t, "steps", x.keys(p, steps...), api.ErrForm)
	}
}

// More turns than two bytes count can't rise.
func TestTooManyTurnsToWrite(t *testing.T) {
	h := (&mixer{}).keys(paramsOf(8, 17, 2, 97), 1)
	for _, count := range []int{4, 255, 256, 65536, 65537} {
		many := h
		many.keys.Turns = slices.Repeat(h.keys.Turns, count)
		for i := range many.keys.Turns {
			many.keys.Turns[i].Step = i + 1
		}
		refusedToWrite(t, "turns", many, api.ErrForm)
	}
}
