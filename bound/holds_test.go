package bound_test

import (
	"math/big"
	"slices"
	"strconv"
	"testing"

	"arras/api"
	"arras/bound"
	"arras/cipher"
	"arras/eval"
	"arras/keys"
	"arras/nat"
	"arras/ring"
	"arras/tape"
)

// maker makes ciphertexts that hold just what they should, and keys with errors at one end.
type maker struct {
	p          api.Params
	x          *mixer
	ring       *ring.Ring
	v          *eval.Eval
	secret     []int64
	relin, one api.Switch // one: of a turn by 1
}

// switchDraws are draws of a switch: numbers of elements, then errors that are all alike.
func (m *maker) switchDraws(draw uint64) *tape.Tape {
	var list []uint64
	for range m.p.Q {
		for range m.p.N * len(m.p.Q) {
			// No prime passes by a word that is so far below 2^64.
			list = append(list, m.x.next()>>1)
		}
		list = append(list, slices.Repeat([]uint64{draw}, m.p.N)...)
	}
	return tape.New(list)
}

// makerOf has keys whose errors are all the width, or all less by as much.
func makerOf(t *testing.T, p api.Params, secret []int64, isUp bool) *maker {
	t.Helper()
	m := &maker{p: p, x: &mixer{state: p.T}, secret: secret}
	draw := uint64(1)<<p.Width - 1
	if !isUp {
		draw <<= p.Width
	}
	var err [4]api.Errno
	m.ring, err[0] = ring.New(p.N, p.Q)
	m.v, err[1] = eval.New(p)
	m.relin, err[2] = keys.Relin(p, secret, m.switchDraws(draw))
	m.one, err[3] = keys.Turn(p, secret, 1, m.switchDraws(draw))
	if err != [4]api.Errno{} {
		t.Fatal(name(p), err)
	}
	return m
}

// What a ciphertext's parts are, but for the first one.
const (
	partsOfChance = iota
	partsGreatest
	partsLeast
	partsModes
)

// part is an element of a level whose numbers are all at one end, or of chance.
func (m *maker) part(level, mode int) api.Poly {
	var a api.Poly
	for _, q := range m.p.Q[:level+1] {
		switch mode {
		case partsGreatest:
			// Half of the modulus, rounded down, is half of each prime, rounded down.
			a.R = append(a.R, slices.Repeat([]uint64{q / 2}, m.p.N))
		case partsLeast:
			a.R = append(a.R, slices.Repeat([]uint64{q/2 + 1}, m.p.N))
		default:
			a.R = append(a.R, m.x.numbers(m.p.N, q))
		}
	}
	return a
}

// elementOf is the element of numbers.
func elementOf(numbers []*big.Int, row []uint64) api.Poly {
	var a api.Poly
	for _, q := range row {
		list := make([]uint64, len(numbers))
		for i, v := range numbers {
			list[i] = new(big.Int).Mod(v, word(q)).Uint64()
		}
		a.R = append(a.R, list)
	}
	return a
}

// holding is a ciphertext that holds a text's spread and noise.
func (m *maker) holding(level, parts, mode int, text []uint64, noise []*big.Int) api.Cipher {
	row := m.p.Q[:level+1]
	step := new(big.Int).Div(productOf(row), word(m.p.T))
	numbers := make([]*big.Int, m.p.N)
	for i, c := range text {
		centered := word(c)
		if c > m.p.T/2 {
			centered.Sub(centered, word(m.p.T))
		}
		numbers[i] = centered.Mul(centered, step)
		numbers[i].Add(numbers[i], noise[i])
	}
	first := elementOf(numbers, row)
	secret, _ := m.ring.Lift(m.secret, level)
	c, power := api.Cipher{C: []api.Poly{first}}, secret
	for range parts - 1 {
		part := m.part(level, mode)
		product, _ := m.ring.Mul(part, power)
		c.C[0], _ = m.ring.Sub(c.C[0], product)
		c.C = append(c.C, part)
		power, _ = m.ring.Mul(power, secret)
	}
	return c
}

// noises are numbers of just one size, all of one sign, or of both.
func (m *maker) noises(size *big.Int, signs int) []*big.Int {
	list := make([]*big.Int, m.p.N)
	for i := range list {
		list[i] = new(big.Int).Set(size)
		if signs == 1 || signs == 2 && m.x.next()%2 == 0 {
			list[i].Neg(list[i])
		}
	}
	return list
}

// What is reckoned with texts: numbers modulo T, polynomials modulo X^N + 1.

func (m *maker) sum(a, b []uint64) []uint64 {
	sum := make([]uint64, len(a))
	for i, v := range a {
		sum[i] = (v + b[i]) % m.p.T
	}
	return sum
}

func (m *maker) product(a, b []uint64) []uint64 {
	out := make([]uint64, len(a))
	for i, v := range a {
		for j, w := range b {
			term := v * w % m.p.T
			if i+j >= len(a) && term > 0 {
				term = m.p.T - term
			}
			out[(i+j)%len(a)] = (out[(i+j)%len(a)] + term) % m.p.T
		}
	}
	return out
}

// turned has X^3 for X, which is a turn by 1.
func (m *maker) turned(text []uint64) []uint64 {
	out := make([]uint64, len(text))
	for i, v := range text {
		if at := 3 * i / len(text); at%2 == 1 && v > 0 {
			v = m.p.T - v
		}
		out[3*i%len(text)] = v
	}
	return out
}

func natural(v api.Nat) *big.Int {
	sum := new(big.Int)
	for _, w := range slices.Backward(v) {
		sum.Or(sum.Lsh(sum, 64), word(w))
	}
	return sum
}

// reckoned is what came of a call: a ciphertext, the text that it holds, and its bound.
type reckoned struct {
	what  string
	c     api.Cipher
	err   api.Errno
	text  []uint64
	bound api.Nat
	most  api.Errno
}

// holds asks that there is no more noise than the bound. It answers the noise.
func (m *maker) holds(t *testing.T, r reckoned) *big.Int {
	t.Helper()
	noise, err := cipher.Noise(m.p, m.secret, r.c, r.text)
	if r.err != api.OK || r.most != api.OK || err != api.OK || nat.Cmp(noise, r.bound) > 0 {
		t.Error(r.what, name(m.p), r.err, r.most, err, natural(noise), natural(r.bound))
	}
	return natural(noise)
}

// pair is two ciphertexts' parts, texts and noises of a level.
type pair struct {
	level, mode, signs int
	a, b               *big.Int
	first, second      []uint64
}

// reckon makes one thing of each call.
func (m *maker) reckon(x pair) []reckoned {
	p, level, a, b := m.p, x.level, told(x.a), told(x.b)
	first := m.holding(level, 2, x.mode, x.first, m.noises(x.a, x.signs))
	second := m.holding(level, 2, x.mode, x.second, m.noises(x.b, x.signs))
	three := m.holding(level, 3, x.mode, x.first, m.noises(x.a, x.signs))
	var list []reckoned
	put := func(what string, text []uint64, c api.Cipher, err api.Errno) func(most api.Nat, errMost api.Errno) {
		return func(most api.Nat, errMost api.Errno) {
			list = append(list, reckoned{what, c, err, text, most, errMost})
		}
	}
	c, err := m.v.Add(first, second)
	put("Add", m.sum(x.first, x.second), c, err)(bound.Add(p, level, a, b))
	c, err = m.v.Add(second, three)
	put("Add of three parts", m.sum(x.first, x.second), c, err)(bound.Add(p, level, b, a))
	c, err = m.v.AddText(three, x.second)
	put("AddText", m.sum(x.first, x.second), c, err)(bound.AddText(p, level, a))
	c, err = m.v.MulText(first, x.second)
	put("MulText", m.product(x.first, x.second), c, err)(bound.MulText(p, level, a, x.second))
	c, err = m.v.MulText(three, x.second)
	put("MulText of three parts", m.product(x.first, x.second), c, err)(bound.MulText(p, level, a, x.second))
	c, err = m.v.Mul(first, second)
	put("Mul", m.product(x.first, x.second), c, err)(bound.Mul(p, level, a, b))
	c, err = m.v.Relin(three, m.relin)
	put("Relin", x.first, c, err)(bound.Switch(p, level, a))
	c, err = m.v.Turn(first, 1, m.one)
	put("Turn", m.turned(x.first), c, err)(bound.Switch(p, level, a))
	if level > 0 {
		c, err = m.v.Lower(first)
		put("Lower", x.first, c, err)(bound.Lower(p, level, 2, a))
		c, err = m.v.Lower(three)
		put("Lower of three parts", x.first, c, err)(bound.Lower(p, level, 3, a))
	}
	return list
}

// sizes are noises below half of a level's modulus: none, few, as much as fits, and as much as there can be.
func sizes(f facts) []*big.Int {
	half := new(big.Int).Rsh(f.modulus, 1)
	list := []*big.Int{new(big.Int), one, f.fresh(), new(big.Int).Sqrt(f.modulus), f.most(), new(big.Int).Rsh(half, 1), half}
	return slices.DeleteFunc(list, func(a *big.Int) bool { return a.Sign() < 0 || a.Cmp(half) > 0 })
}

func secrets(n int) [][]int64 {
	mixed := make([]int64, n)
	for i := range mixed {
		mixed[i] = int64((&mixer{state: uint64(n + i)}).next()%3) - 1
	}
	return [][]int64{slices.Repeat([]int64{1}, n), slices.Repeat([]int64{-1}, n), mixed}
}

// holding are parameters with rests of all sizes: small moduli beside T, and great ones.
func holding() []api.Params {
	return []api.Params{
		example(),
		paramsOf(8, 97, 1, primesBelow(8, 1<<20, 2)...),
		paramsOf(8, 17, 3, primesBelow(8, primeEnd, 3)...),
		paramsOf(16, primesBelow(16, api.MaxT, 1)[0], 2, primesBelow(16, primeEnd, 3)...),
		paramsOf(32, 193, api.MaxError, append(leastPrimes(32, 3)[1:], primesBelow(32, primeEnd, 2)...)...),
	}
}

// All that is reckoned with ciphertexts of any noise has no more than the bound, however all numbers are at their ends.
func TestBoundsHold(t *testing.T) {
	for number, p := range holding() {
		t.Run(strconv.Itoa(number), func(t *testing.T) {
			t.Parallel()
			tight := 0
			for i, secret := range secrets(p.N) {
				m := makerOf(t, p, secret, i%2 == 0)
				for level := range p.Q {
					tight += m.boundsHold(t, level, i)
				}
			}
			// The first ones' modulus is small.
			if number > 0 && tight < 200 {
				t.Error("too few bounds that say something", name(p), tight)
			}
		})
	}
}

// boundsHold goes through noises of all sizes, and tells of how many bounds less than half of the modulus was said.
func (m *maker) boundsHold(t *testing.T, level, number int) int {
	t.Helper()
	tight, list := 0, texts(m.p)
	for i, a := range sizes(factsOf(m.p, level)) {
		for j, b := range sizes(factsOf(m.p, level)) {
			at := number + 2*i + 3*j
			x := pair{level, at % partsModes, (number + i + j) % 3, a, b, list[at%len(list)], list[at*5%len(list)]}
			if at%4 == 0 {
				// Both texts are as great as they can be.
				x.first, x.second = list[4], list[4+at/4%2]
			}
			for _, r := range m.reckon(x) {
				m.holds(t, r)
				if m.saysSomething(r) {
					tight++
				}
			}
		}
	}
	return tight
}

// saysSomething asks whether a bound is less than half of the modulus, beyond which there is no noise.
func (m *maker) saysSomething(r reckoned) bool {
	twice := new(big.Int).Lsh(natural(r.bound), 1)
	return twice.Cmp(productOf(m.p.Q[:len(r.c.C[0].R)])) < 0
}

// Some bounds are reached: there is no less that would hold.
func TestBoundsThatAreReached(t *testing.T) {
	for _, p := range []api.Params{paramsOf(8, 17, 2, primesBelow(8, 1<<20, 2)...), paramsOf(16, 97, api.MaxError, primesBelow(16, primeEnd, 3)...)} {
		// The errors are taken off, so what is switched grows by those that are below 0.
		m := makerOf(t, p, secrets(p.N)[0], false)
		nought, alone, great := make([]uint64, p.N), make([]uint64, p.N), slices.Repeat([]uint64{p.T / 2}, p.N)
		alone[0] = p.T / 2
		for level := range p.Q {
			// The greatest text twice is less than a text by T: the noise is below 0, and the rest is taken off once more.
			m.reached(t, pair{level, partsOfChance, 1, big.NewInt(5), big.NewInt(6), great, great}, "Add", "AddText")
			// So it is times one number: of 8 times 8 the rest is taken off 4 times, which is the half of 9.
			if p.T == 17 {
				m.reached(t, pair{level, partsOfChance, 1, big.NewInt(5), big.NewInt(6), great, alone}, "MulText")
			}
			// All digits are as great as they can be, and so are all errors.
			m.reached(t, pair{level, partsGreatest, 0, big.NewInt(5), big.NewInt(6), nought, nought}, "Relin")
		}
	}
}

// reached asks that the noise of calls is all that the bound says, if that is less than half of the modulus.
func (m *maker) reached(t *testing.T, x pair, calls ...string) {
	t.Helper()
	for _, r := range m.reckon(x) {
		if !slices.Contains(calls, r.what) || x.level == 0 && !m.saysSomething(r) {
			continue
		}
		if noise := m.holds(t, r); noise.Cmp(natural(r.bound)) != 0 {
			t.Error("not reached", r.what, nameAt(m.p, x.level), noise, natural(r.bound))
		}
	}
}

// What fits is told, by whatever text and secret, up to the greatest noise that fits; with one more it isn't, by a text at the end.
func TestWhatFitsIsTold(t *testing.T) {
	t.Parallel()
	count := 0
	for _, p := range all() {
		if p.N > 64 && p.N < api.MaxN {
			continue
		}
		for i, secret := range secrets(p.N) {
			if p.N > 8 && i < 2 {
				continue
			}
			m := makerOf(t, p, secret, true)
			for level := range p.Q {
				if most := factsOf(p, level).most(); most.Sign() >= 0 {
					count++
					m.tellsUpTo(t, level, most)
				}
			}
		}
	}
	if count < 50 {
		t.Error("too few levels of which anything is told", count)
	}
}

// tellsUpTo holds Fits and Tell against each other about the greatest noise that fits.
func (m *maker) tellsUpTo(t *testing.T, level int, most *big.Int) {
	t.Helper()
	p := m.p
	list := texts(p)
	if p.N > 64 {
		list = list[3:5]
	}
	for _, a := range []*big.Int{new(big.Int).Rsh(most, 1), new(big.Int).Sub(most, one), most} {
		if a.Sign() < 0 {
			continue
		}
		if !bound.Fits(p, level, told(a)) {
			t.Error("Fits", nameAt(p, level), a)
		}
		for i, text := range list {
			c := m.holding(level, 2+i%2, i%partsModes, text, m.noises(a, (i+level)%3))
			if got, err := cipher.Tell(p, m.secret, c); err != api.OK || !slices.Equal(got, text) {
				t.Error("Tell", nameAt(p, level), a, i, err)
			}
		}
	}
	beyond := new(big.Int).Add(most, one)
	if bound.Fits(p, level, told(beyond)) {
		t.Error("Fits", nameAt(p, level), beyond)
	}
	great := slices.Repeat([]uint64{p.T / 2}, p.N)
	for signs, text := range [][]uint64{slices.Repeat([]uint64{p.T/2 + 1}, p.N), great} {
		c := m.holding(level, 2, partsOfChance, text, m.noises(beyond, signs))
		if got, err := cipher.Tell(p, m.secret, c); err != api.OK || slices.Equal(got, text) {
			t.Error("told beyond what fits", nameAt(p, level), beyond, err)
		}
	}
}
