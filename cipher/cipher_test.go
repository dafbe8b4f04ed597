package cipher_test

import (
	"math"
	"math/big"
	"slices"
	"strconv"
	"testing"

	"arras/api"
	"arras/cipher"
	"arras/keys"
	"arras/tape"
)

const (
	most     = math.MaxUint64
	primeEnd = 1 << 50
)

// mixer tells words that look like chance, the same ones each time.
type mixer struct{ state uint64 }

func (x *mixer) next() uint64 {
	x.state += 0x9e3779b97f4a7c15
	z := x.state
	z = (z ^ z>>30) * 0xbf58476d1ce4e5b9
	z = (z ^ z>>27) * 0x94d049bb133111eb
	return z ^ z>>31
}

// draws are words for a tape, of which some are the greatest one, which no prime and no ternary draw takes.
func (x *mixer) draws(count int) []uint64 {
	list := make([]uint64, count)
	for i := range list {
		list[i] = x.next()
		if x.next()%16 == 0 {
			list[i] = most
		}
	}
	return list
}

func (x *mixer) secret(n int) []int64 {
	list := make([]int64, n)
	for i := range list {
		list[i] = int64(x.next()%3) - 1
	}
	return list
}

// numbers are n below an end, some of them 0, the greatest, and those about the middle.
func (x *mixer) numbers(n int, end uint64) []uint64 {
	list := make([]uint64, n)
	for i := range list {
		list[i] = []uint64{0, end - 1, end / 2, end/2 + 1, x.next() % end, x.next() % end, x.next() % end, x.next() % end}[x.next()%8]
	}
	return list
}

// element is one of a row's primes.
func (x *mixer) element(n int, row []uint64) api.Poly {
	var a api.Poly
	for _, q := range row {
		a.R = append(a.R, x.numbers(n, q))
	}
	return a
}

// cipher is one of so many parts.
func (x *mixer) cipher(p api.Params, parts, level int) api.Cipher {
	var c api.Cipher
	for range parts {
		c.C = append(c.C, x.element(p.N, p.Q[:level+1]))
	}
	return c
}

// public is a public key of whatever numbers.
func (x *mixer) public(p api.Params) api.Public {
	return api.Public{B: x.element(p.N, p.Q), A: x.element(p.N, p.Q)}
}

// An independent reckoning: the tape's own calls, residues one by one, and whole numbers by math/big.

func word(w uint64) *big.Int { return new(big.Int).SetUint64(w) }

func isPrime(n uint64) bool { return word(n).ProbablyPrime(0) }

func productOf(row []uint64) *big.Int {
	product := big.NewInt(1)
	for _, q := range row {
		product.Mul(product, word(q))
	}
	return product
}

// center is the number least in size that is v modulo an odd number.
func center(v, around *big.Int) *big.Int {
	rest := new(big.Int).Mod(v, around)
	if new(big.Int).Lsh(rest, 1).Cmp(around) > 0 {
		rest.Sub(rest, around)
	}
	return rest
}

// nearest is v by a number above 0: half of it is added, then the quotient is rounded down, so that halves go up.
func nearest(v, by *big.Int) *big.Int {
	twice := new(big.Int).Lsh(v, 1)
	twice.Add(twice, by)
	// by is above 0, so Euclid's quotient is the one rounded down.
	return twice.Div(twice, new(big.Int).Lsh(by, 1))
}

// told is a natural as it should be told.
func told(v *big.Int) api.Nat {
	var size api.Nat
	for left := new(big.Int).Set(v); left.Sign() > 0; left.Rsh(left, 64) {
		size = append(size, new(big.Int).And(left, word(most)).Uint64())
	}
	return size
}

// wrapped is the polynomial of these numbers at these powers of X, modulo X^n + 1: X^n is -1.
type wrapped []int64

func (w wrapped) put(power int, v int64) {
	n := len(w)
	if power%(2*n) >= n {
		v = -v
	}
	w[power%n] += v
}

// timesSmall is a list of residues times a polynomial of numbers that are 0, 1 or -1: of at most MaxN of them below 2^50 no sum is beyond 2^62.
func timesSmall(a []uint64, s []int64) []int64 {
	out := make(wrapped, len(s))
	for j, w := range s {
		if w == 0 {
			continue
		}
		for i, v := range a {
			out.put(i+j, w*int64(v))
		}
	}
	return out
}

// residueOf is v modulo q, from 0 on.
func residueOf(v int64, q uint64) uint64 {
	rest := v % int64(q)
	if rest < 0 {
		rest += int64(q)
	}
	return uint64(rest)
}

func residuesOf(numbers []*big.Int, row []uint64) api.Poly {
	var a api.Poly
	for _, q := range row {
		list := make([]uint64, len(numbers))
		for i, v := range numbers {
			list[i] = new(big.Int).Mod(v, word(q)).Uint64()
		}
		a.R = append(a.R, list)
	}
	return a
}

// wholesOf are an element's numbers: each residue times what is 1 modulo its prime and 0 modulo all others.
func wholesOf(a api.Poly, row []uint64) []*big.Int {
	around := productOf(row)
	var ones []*big.Int
	for _, q := range row {
		others := new(big.Int).Div(around, word(q))
		ones = append(ones, others.Mul(others, new(big.Int).ModInverse(others, word(q))))
	}
	var numbers []*big.Int
	for i := range a.R[0] {
		sum := new(big.Int)
		for place := range row {
			sum.Add(sum, new(big.Int).Mul(word(a.R[place][i]), ones[place]))
		}
		numbers = append(numbers, center(sum, around))
	}
	return numbers
}

// timesWhole are whole numbers times a secret, exactly.
func timesWhole(a []*big.Int, s []int64) []*big.Int {
	out := make([]*big.Int, len(a))
	for i := range out {
		out[i] = new(big.Int)
	}
	for i, v := range a {
		for j, w := range s {
			term := new(big.Int).Mul(v, big.NewInt(w))
			if i+j >= len(a) {
				term.Neg(term)
			}
			out[(i+j)%len(a)].Add(out[(i+j)%len(a)], term)
		}
	}
	return out
}

// heldByWholes is what a ciphertext holds, by the whole numbers of its parts.
func heldByWholes(p api.Params, s []int64, c api.Cipher) []*big.Int {
	row := p.Q[:len(c.C[0].R)]
	sum := wholesOf(c.C[0], row)
	for at, part := range c.C[1:] {
		product := wholesOf(part, row)
		for range at + 1 {
			product = timesWhole(product, s)
		}
		for i, v := range product {
			sum[i].Add(sum[i], v)
		}
	}
	for i, v := range sum {
		sum[i] = center(v, productOf(row))
	}
	return sum
}

// powersOf is what the parts from the second one on hold, residue by residue.
func powersOf(p api.Params, s []int64, parts []api.Poly, place int) []int64 {
	q := p.Q[place]
	sum := make([]int64, p.N)
	for at, part := range parts {
		list := slices.Clone(part.R[place])
		for range at + 1 {
			for i, v := range timesSmall(list, s) {
				list[i] = residueOf(v, q)
			}
		}
		for i, v := range list {
			sum[i] += int64(v)
		}
	}
	return sum
}

// heldOf is what a ciphertext holds, residue by residue, then as whole numbers.
func heldOf(p api.Params, s []int64, c api.Cipher) []*big.Int {
	row := p.Q[:len(c.C[0].R)]
	var held api.Poly
	for place, q := range row {
		list := make([]uint64, p.N)
		for i, v := range powersOf(p, s, c.C[1:], place) {
			list[i] = residueOf(int64(c.C[0].R[place][i])+v, q)
		}
		held.R = append(held.R, list)
	}
	return wholesOf(held, row)
}

// holding is a ciphertext of a level that holds these numbers: all parts but the first are of chance.
func (x *mixer) holding(p api.Params, s []int64, parts, level int, numbers []*big.Int) api.Cipher {
	c := x.cipher(p, parts, level)
	c.C[0] = residuesOf(numbers, p.Q[:level+1])
	for place, q := range p.Q[:level+1] {
		for i, v := range powersOf(p, s, c.C[1:], place) {
			c.C[0].R[place][i] = residueOf(int64(c.C[0].R[place][i])-v, q)
		}
	}
	return c
}

// toldOf is what numbers of a level tell.
func toldOf(p api.Params, level int, numbers []*big.Int) []uint64 {
	text := make([]uint64, len(numbers))
	for i, v := range numbers {
		near := nearest(new(big.Int).Mul(v, word(p.T)), productOf(p.Q[:level+1]))
		text[i] = near.Mod(near, word(p.T)).Uint64()
	}
	return text
}

// spreadOf are a text's coefficients, centered, each times the level's step.
func spreadOf(p api.Params, level int, text []uint64) []*big.Int {
	step := new(big.Int).Div(productOf(p.Q[:level+1]), word(p.T))
	numbers := make([]*big.Int, len(text))
	for i, v := range text {
		numbers[i] = new(big.Int).Mul(center(word(v), word(p.T)), step)
	}
	return numbers
}

// noiseOf is by how much numbers of a level differ at most from a text's spread.
func noiseOf(p api.Params, level int, numbers []*big.Int, text []uint64) api.Nat {
	noise := new(big.Int)
	for i, v := range spreadOf(p, level, text) {
		size := center(v.Sub(numbers[i], v), productOf(p.Q[:level+1]))
		if size.Abs(size).Cmp(noise) > 0 {
			noise = size
		}
	}
	return told(noise)
}

// hiddenOf is what Hide should make, by the tape's own calls: the ternary numbers, then the errors of the first part, then those of the second.
func hiddenOf(p api.Params, k api.Public, text []uint64, t *tape.Tape) (api.Cipher, api.Errno) {
	u, err := t.Ternaries(p.N)
	if err != api.OK {
		return api.Cipher{}, err
	}
	e, err := t.Errors(p.N, p.Width)
	if err != api.OK {
		return api.Cipher{}, err
	}
	f, err := t.Errors(p.N, p.Width)
	if err != api.OK {
		return api.Cipher{}, err
	}
	spread := residuesOf(spreadOf(p, len(p.Q)-1, text), p.Q)
	c := api.Cipher{C: make([]api.Poly, 2)}
	for place, q := range p.Q {
		b, a := timesSmall(k.B.R[place], u), timesSmall(k.A.R[place], u)
		first, second := make([]uint64, p.N), make([]uint64, p.N)
		for i := range p.N {
			first[i] = residueOf(b[i]%int64(q)+e[i]+int64(spread.R[place][i]), q)
			second[i] = residueOf(a[i]%int64(q)+f[i], q)
		}
		c.C[0].R, c.C[1].R = append(c.C[0].R, first), append(c.C[1].R, second)
	}
	return c, api.OK
}

func samePoly(a, b api.Poly) bool {
	return slices.EqualFunc(a.R, b.R, slices.Equal[[]uint64])
}

func sameCipher(a, b api.Cipher) bool {
	return slices.EqualFunc(a.C, b.C, samePoly)
}

// primesBelow are the greatest ones below an end that are 1 modulo 2n, falling.
func primesBelow(n int, end uint64, count int) []uint64 {
	var list []uint64
	step := uint64(2 * n)
	for q := (end-2)/step*step + 1; len(list) < count; q -= step {
		if isPrime(q) {
			list = append(list, q)
		}
	}
	return list
}

// leastPrimes are the least ones that are 1 modulo 2n.
func leastPrimes(n, count int) []uint64 {
	var list []uint64
	for q := uint64(2*n + 1); len(list) < count; q += uint64(2 * n) {
		if isPrime(q) {
			list = append(list, q)
		}
	}
	return list
}

func paramsOf(n int, plain uint64, width int, row ...uint64) api.Params {
	return api.Params{N: n, T: plain, Q: row, Width: width}
}

func example() api.Params { return paramsOf(8, 17, 2, 97, 193) }

// small are parameters of few coefficients: the least width and the greatest, the least T and the greatest, a T beyond the modulus, one prime up to as many as may be, the least and the greatest.
func small() []api.Params {
	list := []api.Params{example(), paramsOf(8, 17, 1, 97), paramsOf(8, 17, 1, 193, 97), paramsOf(8, 97, api.MaxError, 17), paramsOf(8, 257, 3, 17, 97, 113)}
	for n := 8; n <= 64; n *= 2 {
		for i, row := range [][]uint64{leastPrimes(n, 3)[1:], leastPrimes(n, 9)[1:], primesBelow(n, primeEnd, 1), primesBelow(n, primeEnd, 3)} {
			list = append(list, paramsOf(n, leastPrimes(n, 1)[0], 1+5*i, row...), paramsOf(n, primesBelow(n, api.MaxT, 1)[0], 2+i, row...))
		}
	}
	return append(list, paramsOf(8, 17, 3, primesBelow(8, primeEnd, api.MaxPrimes)...))
}

// great are parameters of many coefficients, with as many bits as the table's row allows, and with as many primes.
func great() []api.Params {
	return []api.Params{
		paramsOf(128, 257, 2, primesBelow(128, primeEnd, 5)...),
		paramsOf(256, 7681, 4, leastPrimes(256, 9)[1:]...),
		paramsOf(1024, 12289, 2, primesBelow(1024, 1<<27, 1)...),
		paramsOf(2048, 12289, 10, primesBelow(2048, 1<<27, 2)...),
		paramsOf(api.MaxN, 40961, api.MaxError, append(primesBelow(api.MaxN, 1<<36, 2), primesBelow(api.MaxN, 1<<37, 1)...)...),
	}
}

func name(p api.Params) string {
	text := "N " + strconv.Itoa(p.N) + " T " + strconv.FormatUint(p.T, 10) + " Width " + strconv.Itoa(p.Width) + " Q"
	for _, q := range p.Q {
		text += " " + strconv.FormatUint(q, 10)
	}
	return text
}

// secrets are such as N numbers may be: of chance, all alike, and powers of X.
func secrets(n int) [][]int64 {
	last := make([]int64, n)
	last[n-1] = -1
	second := make([]int64, n)
	second[1] = 1
	return [][]int64{(&mixer{state: uint64(n)}).secret(n), make([]int64, n), slices.Repeat([]int64{1}, n), slices.Repeat([]int64{-1}, n), last, second}
}

// texts are such as may be hidden: all 0, all the greatest, about the middle, where signs change, and mixed.
func texts(p api.Params) [][]uint64 {
	list := [][]uint64{(&mixer{state: p.T + uint64(p.N)}).numbers(p.N, p.T)}
	for _, v := range []uint64{0, 1, p.T - 1, p.T / 2, p.T/2 + 1} {
		list = append(list, slices.Repeat([]uint64{v}, p.N))
	}
	return list
}

// some is the first of many, where there are many coefficients.
func some[Thing any](p api.Params, things []Thing) []Thing {
	if p.N > 64 {
		return things[:1]
	}
	return things
}

// Of N 8 and Q 97 the step by 17 is 5. B is 1 + 2 X, A is 3 X^7; u is X - X^3, e is 1 - X^7, f is -X^2.
func TestHideByHand(t *testing.T) {
	p := paramsOf(8, 17, 1, 97)
	k := api.Public{B: api.Poly{R: [][]uint64{{1, 2, 0, 0, 0, 0, 0, 0}}}, A: api.Poly{R: [][]uint64{{0, 0, 0, 0, 0, 0, 0, 3}}}}
	draws := tape.New([]uint64{0, 1, 0, 2, 0, 3, 0, 0, 0, 1, 0, 0, 0, 0, 0, 0, 2, 0, 0, 2, 3, 0, 0, 0, 0, 77})
	c, err := cipher.Hide(p, k, []uint64{0, 1, 2, 8, 9, 16, 0, 0}, draws)
	want := api.Cipher{C: []api.Poly{
		// X + 2 X^2 - X^3 - 2 X^4, and 1 - X^7, and 5 X + 10 X^2 + 40 X^3 - 40 X^4 - 5 X^5.
		{R: [][]uint64{{1, 6, 12, 39, 55, 92, 0, 96}}},
		// 3 X^8 - 3 X^10 is -3 + 3 X^2, and -X^2.
		{R: [][]uint64{{94, 0, 2, 0, 0, 0, 0, 0}}},
	}}
	if err != api.OK || !sameCipher(c, want) || draws.Left() != 1 {
		t.Error(c, err, draws.Left())
	}
}

// All draws are 0: nothing hides the spread. The step is 1101.
func TestSpreadByHand(t *testing.T) {
	nought := make([]uint64, 8)
	k := (&mixer{}).public(example())
	c, err := cipher.Hide(example(), k, []uint64{0, 1, 16, 8, 9, 2, 15, 0}, tape.New(make([]uint64, 24)))
	spread := []int64{0, 1101, -1101, 8808, -8808, 2202, -2202, 0}
	want := api.Cipher{C: []api.Poly{{R: [][]uint64{make([]uint64, 8), make([]uint64, 8)}}, {R: [][]uint64{nought, nought}}}}
	for i, v := range spread {
		want.C[0].R[0][i], want.C[0].R[1][i] = residueOf(v, 97), residueOf(v, 193)
	}
	if err != api.OK || !sameCipher(c, want) {
		t.Error(c, err)
	}
}

func TestHide(t *testing.T) {
	t.Parallel()
	for _, p := range append(small(), great()...) {
		x := &mixer{state: p.T}
		draws := x.draws(12 * p.N)
		for i, text := range some(p, texts(p)) {
			k := x.public(p)
			got, want := tape.New(draws), tape.New(draws)
			// The second one takes what the first one left.
			for range 2 {
				c, err := cipher.Hide(p, k, text, got)
				wanted, errWanted := hiddenOf(p, k, text, want)
				if err != api.OK || errWanted != api.OK || !sameCipher(c, wanted) {
					t.Error(name(p), i, err, errWanted)
				}
				if got.Left() != want.Left() || got.Left() == 0 {
					t.Error("left", name(p), i, got.Left(), want.Left())
				}
				if level, err := cipher.Level(p, c); err != api.OK || level != len(p.Q)-1 {
					t.Error("level", name(p), level, err)
				}
			}
		}
	}
}

func TestLevel(t *testing.T) {
	for _, p := range append(small(), great()...) {
		x := &mixer{state: p.T}
		for want := range p.Q {
			for _, parts := range []int{2, 3} {
				if level, err := cipher.Level(p, x.cipher(p, parts, want)); err != api.OK || level != want {
					t.Error(name(p), parts, want, level, err)
				}
			}
		}
	}
}

// The secret is 1 - X. Of 100 + 50 X and 3 X^7 it holds 103 + 50 X + 3 X^7, as -X times X^7 is 1; of 1 besides, 104 + 48 X + X^2 + 3 X^7.
func TestTellAndNoiseByHand(t *testing.T) {
	p := paramsOf(8, 17, 1, 193)
	s := []int64{1, -1, 0, 0, 0, 0, 0, 0}
	two := api.Cipher{C: []api.Poly{{R: [][]uint64{{100, 50, 0, 0, 0, 0, 0, 0}}}, {R: [][]uint64{{0, 0, 0, 0, 0, 0, 0, 3}}}}}
	three := api.Cipher{C: append(slices.Clone(two.C), api.Poly{R: [][]uint64{{1, 0, 0, 0, 0, 0, 0, 0}}})}
	for _, one := range []struct {
		c     api.Cipher
		text  []uint64
		noise uint64
	}{
		// 103 is -90: -1530 / 193 is -7.9; 850 / 193 is 4.4; 51 / 193 is 0.3. The step is 11: -90 is 2 below -88, 50 is 6 above 44, and 3.
		{two, []uint64{9, 4, 0, 0, 0, 0, 0, 0}, 6},
		// 104 is -89: -7.8; 816 / 193 is 4.2; 17 / 193. -1, 4, 1, 3.
		{three, []uint64{9, 4, 0, 0, 0, 0, 0, 0}, 4},
	} {
		text, err := cipher.Tell(p, s, one.c)
		if err != api.OK || !slices.Equal(text, one.text) {
			t.Error(text, err)
		}
		noise, err := cipher.Noise(p, s, one.c, one.text)
		if err != api.OK || !slices.Equal(noise, api.Nat{one.noise}) {
			t.Error(noise, err)
		}
	}
	// Over noughts the greatest size is that of -90, and of -89.
	for want, c := range map[uint64]api.Cipher{90: two, 89: three} {
		if noise, err := cipher.Noise(p, s, c, make([]uint64, 8)); err != api.OK || !slices.Equal(noise, api.Nat{want}) {
			t.Error(noise, err)
		}
	}
}

// rightHeld holds Tell and Noise of a ciphertext against the numbers that it holds.
func rightHeld(t *testing.T, what string, p api.Params, s []int64, c api.Cipher, numbers []*big.Int, more ...[]uint64) {
	t.Helper()
	level := len(c.C[0].R) - 1
	want := toldOf(p, level, numbers)
	text, err := cipher.Tell(p, s, c)
	if err != api.OK || !slices.Equal(text, want) {
		t.Error("Tell", what, name(p), len(c.C), level, err)
	}
	for i, over := range append(more, want) {
		noise, err := cipher.Noise(p, s, c, over)
		if err != api.OK || !slices.Equal(noise, noiseOf(p, level, numbers, over)) {
			t.Error("Noise", what, name(p), len(c.C), level, i, err)
		}
	}
}

// Ciphertexts of chance, by the whole numbers of their parts.
func TestTellAndNoise(t *testing.T) {
	t.Parallel()
	for _, p := range small() {
		x := &mixer{state: p.T}
		for i, s := range secrets(p.N) {
			if p.N > 16 && i > 0 {
				continue
			}
			for level := range p.Q {
				for _, parts := range []int{2, 3} {
					c := x.cipher(p, parts, level)
					rightHeld(t, "secret "+strconv.Itoa(i), p, s, c, heldByWholes(p, s, c), texts(p)...)
				}
			}
		}
	}
}

func TestTellAndNoiseOfMany(t *testing.T) {
	t.Parallel()
	for _, p := range append(small(), great()...) {
		x := &mixer{state: p.T}
		for i, s := range some(p, secrets(p.N)) {
			for level := range p.Q {
				for _, parts := range []int{2, 3} {
					c := x.cipher(p, parts, level)
					rightHeld(t, "secret "+strconv.Itoa(i), p, s, c, heldOf(p, s, c), texts(p)[0])
				}
			}
		}
	}
}

// chunks are numbers, n at a time: the last ones are gone on with from the first.
func chunks(n int, numbers []*big.Int) [][]*big.Int {
	var rows [][]*big.Int
	for from := 0; from < len(numbers); from += n {
		row := make([]*big.Int, n)
		for i := range row {
			row[i] = numbers[(from+i)%len(numbers)]
		}
		rows = append(rows, row)
	}
	return rows
}

// All numbers of a small modulus.
func TestTellOfAllNumbers(t *testing.T) {
	for _, p := range []api.Params{paramsOf(8, 17, 1, 97, 193), paramsOf(8, 97, 1, 17, 113), paramsOf(8, 113, 1, 97), paramsOf(16, 193, 1, 97)} {
		x := &mixer{state: p.T}
		s := x.secret(p.N)
		for level := range p.Q {
			end := new(big.Int).Rsh(productOf(p.Q[:level+1]), 1).Int64()
			var numbers []*big.Int
			for v := -end; v <= end; v++ {
				numbers = append(numbers, big.NewInt(v))
			}
			for _, row := range chunks(p.N, numbers) {
				for _, parts := range []int{2, 3} {
					rightHeld(t, "all", p, s, x.holding(p, s, parts, level, row), row)
				}
			}
		}
	}
}

// edges are numbers k of which k and a half, times the modulus by T, lies within the level: of both signs, about 0, and at both ends.
func edges(x *mixer, p api.Params) []int64 {
	half := int64(p.T / 2)
	list := []int64{0, 1, -1, -2, half - 1, -half, half - 2, 1 - half, half / 2, -half / 2}
	for range 30 {
		list = append(list, int64(x.next()%p.T)-half)
	}
	// Half of T is the modulus' end: halfway beyond it there is nothing.
	return slices.DeleteFunc(list, func(k int64) bool { return k >= half || k < -half })
}

// Just beneath halfway from k to k + 1 it is k that is told, just above it k + 1: halfway itself there is no number, as all moduli are odd.
func TestTellNextToHalfway(t *testing.T) {
	for _, p := range append(small(), great()...) {
		x := &mixer{state: p.T}
		s := x.secret(p.N)
		for level := range p.Q {
			around := productOf(p.Q[:level+1])
			// Of a lower modulus not every k has a number that is told as k.
			if around.Cmp(word(2*p.T)) <= 0 {
				continue
			}
			var numbers []*big.Int
			var want []uint64
			for _, k := range edges(x, p) {
				beneath := new(big.Int).Mul(big.NewInt(2*k+1), around)
				beneath.Div(beneath, new(big.Int).Lsh(word(p.T), 1))
				numbers = append(numbers, beneath, new(big.Int).Add(beneath, big.NewInt(1)))
				want = append(want, residueOf(k, p.T), residueOf(k+1, p.T))
			}
			for at, row := range chunks(p.N, numbers) {
				for _, parts := range []int{2, 3} {
					if p.N > 256 && parts == 2 && level > 0 {
						continue
					}
					text, err := cipher.Tell(p, s, x.holding(p, s, parts, level, row))
					for i, v := range text {
						if v != want[(at*p.N+i)%len(want)] {
							t.Error(name(p), level, parts, row[i], v)
						}
					}
					if err != api.OK || len(text) != p.N {
						t.Error(name(p), level, parts, err)
					}
				}
			}
		}
	}
}

// One number alone stands out, of either sign, wherever it stands.
func TestNoiseOfOneNumber(t *testing.T) {
	for _, p := range small() {
		x := &mixer{state: p.T}
		s := x.secret(p.N)
		for level := range p.Q {
			end := new(big.Int).Rsh(productOf(p.Q[:level+1]), 1)
			for i, size := range []*big.Int{big.NewInt(0), big.NewInt(1), big.NewInt(7), new(big.Int).Rsh(end, 1), end} {
				for _, at := range []int{0, 1, p.N / 2, p.N - 1} {
					text := x.numbers(p.N, p.T)
					numbers := spreadOf(p, level, text)
					for j := range numbers {
						less := new(big.Int).Rsh(size, uint(1+j%3))
						numbers[j].Add(numbers[j], less)
					}
					numbers[at].Add(spreadOf(p, level, text)[at], []*big.Int{size, new(big.Int).Neg(size)}[(at+i+level)%2])
					c := x.holding(p, s, 2+level%2, level, numbers)
					noise, err := cipher.Noise(p, s, c, text)
					if err != api.OK || !slices.Equal(noise, told(size)) {
						t.Error(name(p), level, at, size, noise, err)
					}
				}
			}
		}
	}
}

// mostNoise is what P12.2 says of what is hidden.
func mostNoise(p api.Params) *big.Int { return big.NewInt(int64(p.Width * (2*p.N + 1))) }

// fits asks whether what has a noise of at most a is told right.
func fits(p api.Params, a *big.Int) bool {
	around := productOf(p.Q)
	sum := new(big.Int).Mul(new(big.Int).Mod(around, word(p.T)), word(p.T-1))
	sum.Add(sum, new(big.Int).Mul(new(big.Int).Lsh(word(p.T), 1), a))
	return sum.Cmp(around) < 0
}

// rightHidden hides a text by a key, and holds what comes of it against what is promised. It answers the noise.
func rightHidden(t *testing.T, what string, p api.Params, s []int64, k api.Public, text []uint64, draws *tape.Tape) *big.Int {
	t.Helper()
	c, err := cipher.Hide(p, k, text, draws)
	if err != api.OK {
		t.Fatal(what, name(p), err)
	}
	words, err := cipher.Noise(p, s, c, text)
	noise := new(big.Int)
	for _, w := range slices.Backward(words) {
		noise.Or(noise.Lsh(noise, 64), word(w))
	}
	if err != api.OK || noise.Cmp(mostNoise(p)) > 0 {
		t.Error("Noise", what, name(p), noise, err)
	}
	back, err := cipher.Tell(p, s, c)
	if err != api.OK || fits(p, mostNoise(p)) && !slices.Equal(back, text) {
		t.Error("Tell", what, name(p), err)
	}
	return noise
}

// tapes are draws of chance, and such as give the same numbers again and again: noughts, ones, errors at both ends.
func tapes(p api.Params, count int) [][]uint64 {
	list := [][]uint64{(&mixer{state: p.T}).draws(2 * count), (&mixer{state: uint64(p.N)}).draws(2 * count)}
	for _, draw := range []uint64{0, 1, 2, 1<<p.Width - 2, (1<<p.Width - 1) << p.Width, 1 << p.Width} {
		list = append(list, slices.Repeat([]uint64{draw}, count))
	}
	return list
}

func TestWhatIsHiddenIsTold(t *testing.T) {
	t.Parallel()
	told := 0
	for _, p := range append(small(), great()...) {
		if fits(p, mostNoise(p)) {
			told++
		}
		for i, words := range some(p, tapes(p, p.N*(len(p.Q)+4))) {
			for j, s := range some(p, secrets(p.N)) {
				for number, text := range some(p, texts(p)) {
					// Each text meets each tape and each secret, if not all of both together.
					if number%3 != (i+j)%3 {
						continue
					}
					draws := tape.New(words)
					k, err := keys.Public(p, s, draws)
					// A draw that no ternary number takes would be passed by for ever.
					if err != api.OK || p.Width == 1 && i == 5 {
						continue
					}
					rightHidden(t, "tape "+strconv.Itoa(i)+" secret "+strconv.Itoa(j), p, s, k, text, draws)
				}
			}
		}
	}
	if told < 20 {
		t.Error("of too few parameters anything is told", told)
	}
}

// fitting are parameters whose modulus is just great enough, for each width up to the greatest.
func fitting() []api.Params {
	var list []api.Params
	for width := 1; width <= api.MaxError; width++ {
		for _, plain := range []uint64{17, 97, 257} {
			p := paramsOf(8, plain, width, plain)
			for q := uint64(17); p.Q[0] == plain; q += 16 {
				if q != plain && isPrime(q) && fits(paramsOf(8, plain, width, q), mostNoise(p)) {
					p.Q[0] = q
				}
			}
			list = append(list, p)
		}
	}
	return list
}

// The greatest noise there may be: all errors of the key at the width, all of u and of the secret 1, all errors of the text at the other end. There is no more, and no less will do.
func TestGreatestNoise(t *testing.T) {
	for _, p := range append(fitting(), example(), paramsOf(8, 17, 4, 97, 193, 113), paramsOf(32, 193, 5, primesBelow(32, primeEnd, 2)...)) {
		s := slices.Repeat([]int64{1}, p.N)
		up, down := uint64(1<<p.Width-1), uint64(1<<p.Width-1)<<p.Width
		for _, ends := range [][2]uint64{{up, down}, {down, up}} {
			for i, text := range texts(p) {
				words := slices.Concat(slices.Repeat([]uint64{5}, p.N*len(p.Q)), slices.Repeat(ends[:1], p.N))
				k, err := keys.Public(p, s, tape.New(words))
				if err != api.OK {
					t.Fatal(name(p), err)
				}
				draws := tape.New(slices.Concat(slices.Repeat([]uint64{2}, p.N), slices.Repeat(ends[:1], 2*p.N)))
				noise := rightHidden(t, "greatest", p, s, k, text, draws)
				// B and A together are less the errors, u is -1: all of one sign at the last coefficient.
				if around := productOf(p.Q); around.Cmp(new(big.Int).Lsh(mostNoise(p), 1)) > 0 && noise.Cmp(mostNoise(p)) != 0 {
					t.Error(name(p), i, noise, mostNoise(p))
				}
				if draws.Left() != 0 {
					t.Error("left", name(p), draws.Left())
				}
			}
		}
	}
}

// A key of another secret tells something else, with a noise about as great as the modulus.
func TestAnotherSecretTellsNothing(t *testing.T) {
	p := great()[0]
	draws := tape.New((&mixer{state: 4}).draws(20 * p.N))
	s, _ := keys.Secret(p, draws)
	k, _ := keys.Public(p, s, draws)
	text := texts(p)[0]
	c, err := cipher.Hide(p, k, text, draws)
	if err != api.OK {
		t.Fatal(err)
	}
	s[0]++
	if s[0] == 2 {
		s[0] = -1
	}
	back, err := cipher.Tell(p, s, c)
	if err != api.OK || slices.Equal(back, text) {
		t.Error(err)
	}
	if noise, err := cipher.Noise(p, s, c, text); err != api.OK || len(noise) != 4 {
		t.Error(noise, err)
	}
}

// The example of the chapter.
func TestCiphertextOfOneElement(t *testing.T) {
	p := example()
	c := (&mixer{}).cipher(p, 1, 1)
	if level, err := cipher.Level(p, c); err != api.ErrForm || level != 0 {
		t.Error(level, err)
	}
	if text, err := cipher.Tell(p, make([]int64, 8), c); err != api.ErrForm || len(text) != 0 {
		t.Error(text, err)
	}
	if noise, err := cipher.Noise(p, make([]int64, 8), c, make([]uint64, 8)); err != api.ErrForm || len(noise) != 0 {
		t.Error(noise, err)
	}
}

func BenchmarkHide(b *testing.B) {
	for _, p := range []api.Params{example(), great()[2], great()[4]} {
		x := &mixer{}
		k, text, draws := x.public(p), x.numbers(p.N, p.T), x.draws(8*p.N)
		b.Run(strconv.Itoa(p.N), func(b *testing.B) {
			for b.Loop() {
				cipher.Hide(p, k, text, tape.New(draws))
			}
		})
	}
}

func BenchmarkTell(b *testing.B) {
	for _, p := range []api.Params{example(), great()[2], great()[4]} {
		x := &mixer{}
		s, c := x.secret(p.N), x.cipher(p, 3, len(p.Q)-1)
		b.Run(strconv.Itoa(p.N), func(b *testing.B) {
			for b.Loop() {
				cipher.Tell(p, s, c)
			}
		})
	}
}
