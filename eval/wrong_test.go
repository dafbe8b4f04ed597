package eval_test

import (
	"math"
	"slices"
	"strconv"
	"testing"

	"arras/api"
	"arras/eval"
)

// hand is all that a call may be handed.
type hand struct {
	a, b api.Cipher
	text []uint64
	step int
	k    api.Switch
}

// call is one of the chapter's: what it is handed, and how many parts its ciphertexts may have.
type call struct {
	name                    string
	hasTwo, hasText, hasKey bool
	fewest, most            int
	do                      func(v *eval.Eval, h hand) (api.Cipher, api.Errno)
}

func calls() []call {
	return []call{
		{name: "Add", hasTwo: true, fewest: 2, most: 3, do: func(v *eval.Eval, h hand) (api.Cipher, api.Errno) { return v.Add(h.a, h.b) }},
		{name: "AddText", hasText: true, fewest: 2, most: 3, do: func(v *eval.Eval, h hand) (api.Cipher, api.Errno) { return v.AddText(h.a, h.text) }},
		{name: "MulText", hasText: true, fewest: 2, most: 3, do: func(v *eval.Eval, h hand) (api.Cipher, api.Errno) { return v.MulText(h.a, h.text) }},
		{name: "Mul", hasTwo: true, fewest: 2, most: 2, do: func(v *eval.Eval, h hand) (api.Cipher, api.Errno) { return v.Mul(h.a, h.b) }},
		{name: "Relin", hasKey: true, fewest: 3, most: 3, do: func(v *eval.Eval, h hand) (api.Cipher, api.Errno) { return v.Relin(h.a, h.k) }},
		{name: "Turn", hasKey: true, fewest: 2, most: 2, do: func(v *eval.Eval, h hand) (api.Cipher, api.Errno) { return v.Turn(h.a, h.step, h.k) }},
		{name: "Lower", fewest: 2, most: 3, do: func(v *eval.Eval, h hand) (api.Cipher, api.Errno) { return v.Lower(h.a) }},
	}
}

// handOf is what a call takes, if it takes ciphertexts of so many parts, of that level.
func handOf(p api.Params, parts, level int) hand {
	x := &mixer{state: p.T}
	return hand{a: x.cipher(p, parts, level), b: x.cipher(p, parts, level), text: x.numbers(p.N, p.T), step: 1, k: x.key(p)}
}

// goodHand is what a call takes, of the highest level.
func goodHand(p api.Params, c call) hand { return handOf(p, c.fewest, len(p.Q)-1) }

func refused(t *testing.T, what string, got api.Cipher, err, want api.Errno) {
	t.Helper()
	if err != want || len(got.C) != 0 {
		t.Error(what, got, err, want)
	}
}

// tried are parameters of two primes, of three, of as many as may be, and of many coefficients.
func tried() []api.Params {
	return []api.Params{example(), paramsOf(16, 97, 16, leastPrimes(16, 9)[1:]...), paramsOf(32, 193, 2, primesBelow(32, primeEnd, 3)...), great()[3]}
}

// wrongParams have one condition of the parameters broken at a time.
func wrongParams() []api.Params {
	return []api.Params{
		{},
		{N: 4, T: 17, Q: []uint64{97, 193}, Width: 2},
		{N: 0, T: 17, Q: []uint64{97, 193}, Width: 2},
		{N: -8, T: 17, Q: []uint64{97, 193}, Width: 2},
		{N: 12, T: 97, Q: []uint64{193}, Width: 2},
		{N: 512, T: 12289, Q: []uint64{13313}, Width: 2},
		{N: 8192, T: 65537, Q: []uint64{114689}, Width: 2},
		{N: math.MinInt, T: 17, Q: []uint64{97, 193}, Width: 2},
		{N: math.MaxInt, T: 17, Q: []uint64{97, 193}, Width: 2},
		{N: 8, T: 0, Q: []uint64{97, 193}, Width: 2},
		{N: 8, T: 33, Q: []uint64{97, 193}, Width: 2},
		{N: 8, T: 41, Q: []uint64{97, 193}, Width: 2},
		{N: 8, T: 193, Q: []uint64{97, 193}, Width: 2},
		{N: 8, T: primesBelow(8, api.MaxT+1000, 1)[0], Q: []uint64{97, 193}, Width: 2},
		{N: 8, T: 17, Width: 2},
		{N: 8, T: 17, Q: []uint64{}, Width: 2},
		{N: 8, T: 17, Q: []uint64{0}, Width: 2},
		{N: 8, T: 17, Q: []uint64{97, 97}, Width: 2},
		{N: 8, T: 17, Q: []uint64{97, 161}, Width: 2},
		{N: 8, T: 17, Q: []uint64{97, 101}, Width: 2},
		{N: 8, T: 17, Q: []uint64{primesBelow(8, primeEnd+1000, 1)[0]}, Width: 2},
		{N: 8, T: 17, Q: leastPrimes(8, api.MaxPrimes+2)[1:], Width: 2},
		{N: 8, T: 17, Q: []uint64{97, 193}},
		{N: 8, T: 17, Q: []uint64{97, 193}, Width: -1},
		{N: 8, T: 17, Q: []uint64{97, 193}, Width: api.MaxError + 1},
		{N: 1024, T: 12289, Q: primesBelow(1024, 1<<28, 1), Width: 2},
		{N: api.MaxN, T: 40961, Q: primesBelow(api.MaxN, 1<<37, 3), Width: 2},
	}
}

func TestWrongParameters(t *testing.T) {
	for _, p := range wrongParams() {
		if v, err := eval.New(p); v != nil || err != api.ErrParam {
			t.Error(name(p), v, err)
		}
	}
}

// No eval, and one that New didn't make, answers ErrArg, whatever it is handed.
func TestNoEval(t *testing.T) {
	for _, c := range calls() {
		for _, v := range []*eval.Eval{nil, {}} {
			for _, h := range []hand{goodHand(example(), c), handOf(example(), 3, 0), {}} {
				got, err := c.do(v, h)
				refused(t, c.name, got, err, api.ErrArg)
			}
		}
	}
}

// wrongElements are what is no element of a level, made of one that is: by faults of its lists, and of one list.
func wrongElements(p api.Params, a api.Poly) map[string]api.Poly {
	top := len(a.R) - 1
	list := map[string]api.Poly{"no lists": {}, "empty lists": {R: [][]uint64{}}, "lists too many": {R: slices.Concat(a.R, make([][]uint64, len(p.Q)+1))}}
	for place := range a.R {
		q := p.Q[place]
		faults := map[string][]uint64{"no numbers": nil, "too short": a.R[place][1:], "too long": append(slices.Clone(a.R[place]), 0), "twice as long": append(slices.Clone(a.R[place]), a.R[place]...)}
		for _, at := range []int{0, p.N / 2, p.N - 1} {
			for _, v := range []uint64{q, q + 1, 1 << 63, most} {
				beyond := slices.Clone(a.R[place])
				beyond[at] = v
				faults["beyond "+strconv.Itoa(at)+" "+strconv.FormatUint(v, 10)] = beyond
			}
		}
		for what, numbers := range faults {
			wrong := api.Poly{R: slices.Clone(a.R)}
			wrong.R[place] = numbers
			list["list "+strconv.Itoa(place)+" of "+strconv.Itoa(top)+" "+what] = wrong
		}
	}
	return list
}

// noCiphertexts are of too few parts or too many, of unlike levels, or have a part that is no element.
func noCiphertexts(p api.Params) map[string]api.Cipher {
	x := &mixer{state: p.T}
	list := map[string]api.Cipher{"none": {}, "empty": {C: []api.Poly{}}}
	for level := range p.Q {
		for _, parts := range []int{1, 4, 5, 100} {
			list[strconv.Itoa(parts)+" parts of level "+strconv.Itoa(level)] = x.cipher(p, parts, level)
		}
		for _, parts := range []int{2, 3} {
			for at := range parts {
				what := "part " + strconv.Itoa(at) + " of " + strconv.Itoa(parts) + " of level " + strconv.Itoa(level) + " "
				put := func(fault string, a api.Poly) {
					c := x.cipher(p, parts, level)
					c.C[at] = a
					list[what+fault] = c
				}
				for other := range p.Q {
					if other != level {
						put("has level "+strconv.Itoa(other), x.element(p.N, p.Q[:other+1]))
					}
				}
				if p.N > 16 && at < parts-1 || len(p.Q) > 3 && level > 1 {
					continue
				}
				for fault, a := range wrongElements(p, x.element(p.N, p.Q[:level+1])) {
					put(fault, a)
				}
			}
		}
	}
	return list
}

func TestNoCiphertexts(t *testing.T) {
	t.Parallel()
	for _, p := range tried() {
		v := evalOf(t, p)
		list := noCiphertexts(p)
		for _, c := range calls() {
			for what, one := range list {
				h := goodHand(p, c)
				h.a = one
				got, err := c.do(v, h)
				refused(t, c.name+" "+name(p)+" first "+what, got, err, api.ErrForm)
				if c.hasTwo {
					h.a, h.b = h.b, one
					got, err = c.do(v, h)
					refused(t, c.name+" "+name(p)+" second "+what, got, err, api.ErrForm)
				}
			}
		}
	}
}

// noTexts are too short, too long, or have a coefficient that is T or more.
func noTexts(p api.Params) [][]uint64 {
	list := [][]uint64{nil, {}, {1}, make([]uint64, p.N-1), make([]uint64, p.N+1), make([]uint64, 2*p.N), make([]uint64, p.N/2)}
	for _, at := range []int{0, 1, p.N / 2, p.N - 1} {
		for _, v := range []uint64{p.T, p.T + 1, 2 * p.T, api.MaxT, 1 << 32, 1 << 63, most, most - p.T} {
			text := slices.Repeat([]uint64{p.T - 1, 0}, p.N/2)
			text[at] = v
			list = append(list, text)
		}
	}
	return list
}

func TestNoTexts(t *testing.T) {
	for _, p := range tried() {
		v := evalOf(t, p)
		for _, c := range calls() {
			if !c.hasText {
				continue
			}
			for i, text := range noTexts(p) {
				for level := range p.Q {
					h := handOf(p, 2+i%2, level)
					h.text = text
					got, err := c.do(v, h)
					refused(t, c.name+" "+name(p)+" text "+strconv.Itoa(i), got, err, api.ErrForm)
				}
			}
		}
	}
}

// Ciphertexts of all levels there are, and of as many parts as may be, are taken; of others not.
func TestPartsAndLevels(t *testing.T) {
	t.Parallel()
	for _, p := range tried() {
		v := evalOf(t, p)
		for _, c := range calls() {
			for level := range p.Q {
				for parts := 2; parts <= 3; parts++ {
					got, err := c.do(v, handOf(p, parts, level))
					what := c.name + " " + nameAt(p, level, parts)
					switch {
					case parts < c.fewest || parts > c.most:
						refused(t, what, got, err, api.ErrShape)
					case c.name == "Lower" && level == 0:
						refused(t, what, got, err, api.ErrLevel)
					case err != api.OK:
						t.Error(what, err)
					}
				}
			}
		}
	}
}

// Where one ciphertext alone has three parts, and where one alone is of another level.
func TestUnlikeCiphertexts(t *testing.T) {
	for _, p := range tried() {
		v, x := evalOf(t, p), &mixer{state: p.T}
		for level := range p.Q {
			two, three := x.cipher(p, 2, level), x.cipher(p, 3, level)
			for _, pair := range [][2]api.Cipher{{two, three}, {three, two}, {three, three}} {
				got, err := v.Mul(pair[0], pair[1])
				refused(t, "Mul "+nameAt(p, level, 3), got, err, api.ErrShape)
			}
			for other := range p.Q {
				if other == level {
					continue
				}
				for parts := 2; parts <= 3; parts++ {
					got, err := v.Add(two, x.cipher(p, parts, other))
					refused(t, "Add "+nameAt(p, other, parts), got, err, api.ErrLevel)
					got, err = v.Add(x.cipher(p, parts, other), three)
					refused(t, "Add "+nameAt(p, other, parts), got, err, api.ErrLevel)
				}
				got, err := v.Mul(two, x.cipher(p, 2, other))
				refused(t, "Mul "+nameAt(p, other, 2), got, err, api.ErrLevel)
			}
		}
	}
}

// A single level has none beneath it.
func TestOnePrime(t *testing.T) {
	for _, p := range []api.Params{paramsOf(8, 17, 1, 97), paramsOf(8, 97, 1, 17), great()[2]} {
		v := evalOf(t, p)
		for _, c := range calls() {
			got, err := c.do(v, goodHand(p, c))
			if c.name == "Lower" {
				refused(t, name(p), got, err, api.ErrLevel)
			} else if err != api.OK {
				t.Error(c.name, name(p), err)
			}
		}
	}
}

// wrongKeys are of too few pairs or too many, on either side, or have an element that isn't of the top level, or is none.
func wrongKeys(p api.Params) map[string]api.Switch {
	x := &mixer{state: p.T}
	good := x.key(p)
	more := x.element(p.N, p.Q)
	list := map[string]api.Switch{
		"none":         {},
		"no B":         {A: good.A},
		"no A":         {B: good.B},
		"short":        {B: good.B[1:], A: good.A[1:]},
		"short B":      {B: good.B[1:], A: good.A},
		"short A":      {B: good.B, A: good.A[1:]},
		"long":         {B: append(slices.Clone(good.B), more), A: append(slices.Clone(good.A), more)},
		"long B":       {B: append(slices.Clone(good.B), more), A: good.A},
		"long A":       {B: good.B, A: append(slices.Clone(good.A), more)},
		"one for more": {B: append(slices.Clone(good.B), more), A: good.A[1:]},
	}
	for at := range p.Q {
		wrong := wrongElements(p, x.element(p.N, p.Q))
		for level := range len(p.Q) - 1 {
			wrong["level "+strconv.Itoa(level)] = x.element(p.N, p.Q[:level+1])
		}
		for what, a := range wrong {
			side := len(list) % 2
			k := api.Switch{B: slices.Clone(good.B), A: slices.Clone(good.A)}
			[2][]api.Poly{k.B, k.A}[side][at] = a
			list["pair "+strconv.Itoa(at)+" side "+strconv.Itoa(side)+" "+what] = k
		}
	}
	return list
}

func TestWrongKeys(t *testing.T) {
	t.Parallel()
	for _, p := range tried() {
		v := evalOf(t, p)
		list := wrongKeys(p)
		for _, c := range calls() {
			if !c.hasKey {
				continue
			}
			for _, level := range []int{0, len(p.Q) - 1} {
				h := handOf(p, c.fewest, level)
				for what, k := range list {
					h.k = k
					got, err := c.do(v, h)
					refused(t, c.name+" "+nameAt(p, level, c.fewest)+" "+what, got, err, api.ErrKey)
				}
			}
		}
	}
}

// A step that no key is for is no error: which step a key is for stands nowhere.
func TestAnyStepIsTaken(t *testing.T) {
	for _, p := range tried() {
		v := evalOf(t, p)
		for _, step := range steps(p.N) {
			h := handOf(p, 2, 0)
			if c, err := v.Turn(h.a, step, h.k); err != api.OK || len(c.C) != 2 {
				t.Error(name(p), step, err)
			}
		}
	}
}

// faulty is what a call is handed with faults, and the one that the chapter names first.
func faulty(p api.Params, c call, faults int) (hand, api.Errno) {
	h, want := goodHand(p, c), api.OK
	put := func(bit int, applies bool, err api.Errno, spoil func()) {
		if faults&bit != 0 && applies {
			spoil()
			want = err
		}
	}
	// The last one that is put in is the one that counts.
	put(1, c.hasKey, api.ErrKey, func() { h.k.A = h.k.A[1:] })
	put(2, c.hasTwo, api.ErrLevel, func() { h.b = handOf(p, c.fewest, 0).b })
	put(4, c.name == "Lower", api.ErrLevel, func() { h.a = handOf(p, c.fewest, 0).a })
	put(8, c.name == "Mul", api.ErrShape, func() { h.a.C = append(h.a.C, h.a.C[0]) })
	put(8, c.name == "Turn", api.ErrShape, func() { h.a.C = append(h.a.C, h.a.C[0]) })
	put(8, c.name == "Relin", api.ErrShape, func() { h.a.C = h.a.C[1:] })
	put(16, c.name == "Mul", api.ErrShape, func() { h.b.C = append(h.b.C, h.b.C[0]) })
	put(32, c.hasText, api.ErrForm, func() { h.text = h.text[1:] })
	put(64, true, api.ErrForm, func() { h.a.C = h.a.C[:1] })
	put(128, c.hasTwo, api.ErrForm, func() { h.b.C = slices.Repeat(h.b.C, 2)[:4] })
	return h, want
}

// Of all wrong things together the chapter's first one is told.
func TestOrderOfErrors(t *testing.T) {
	p := example()
	v := evalOf(t, p)
	for _, c := range calls() {
		for faults := range 256 {
			h, want := faulty(p, c, faults)
			got, err := c.do(v, h)
			what := c.name + " " + strconv.Itoa(faults)
			if want != api.OK {
				refused(t, what, got, err, want)
			} else if err != api.OK {
				t.Error(what, err)
			}
			got, err = c.do(nil, h)
			refused(t, "nil "+what, got, err, api.ErrArg)
		}
	}
}

// What is right of some parameters is none of others, whose primes or numbers are other ones.
func TestOfOtherParameters(t *testing.T) {
	p := paramsOf(8, 17, 2, 113, 193)
	low, long, rows := evalOf(t, paramsOf(8, 17, 2, 97, 193)), evalOf(t, paramsOf(16, 97, 2, 193, 257)), evalOf(t, paramsOf(8, 17, 2, 113))
	for _, c := range calls() {
		h := goodHand(p, c)
		for _, parts := range [][]api.Poly{h.a.C, h.b.C, h.k.B, h.k.A} {
			for i := range parts {
				parts[i].R[0][0] = 112
			}
		}
		for i, v := range []*eval.Eval{low, long, rows} {
			got, err := c.do(v, h)
			refused(t, c.name+" "+strconv.Itoa(i), got, err, api.ErrForm)
		}
		// Of a key alone that is another's it is the key that is wrong.
		if c.hasKey {
			other := paramsOf(8, 17, 2, 97, 193)
			mixed := goodHand(other, c)
			mixed.k = h.k
			got, err := c.do(low, mixed)
			refused(t, c.name, got, err, api.ErrKey)
		}
	}
}
