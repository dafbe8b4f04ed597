package keys_test

import (
	"math"
	"math/big"
	"slices"
	"strconv"
	"testing"

	"arras/api"
	"arras/keys"
	"arras/tape"
)

const (
	most     = math.MaxUint64
	primeEnd = 1 << 50
)

// mixer tells words that look like chance, the same ones each time.
type mixer struct{ state uint64 }

func (x *mixer) next() uint64 {
	x.state += 0x9e3779b97f4a7c15
	z := x.state
	z = (z ^ z>>30) * 0xbf58476d1ce4e5b9
	z = (z ^ z>>27) * 0x94d049bb133111eb
	return z ^ z>>31
}

// draws are words for a tape, of which some are the greatest one, which no prime and no ternary draw takes.
func (x *mixer) draws(count int) []uint64 {
	list := make([]uint64, count)
	for i := range list {
		list[i] = x.next()
		if x.next()%16 == 0 {
			list[i] = most
		}
	}
	return list
}

func (x *mixer) secret(n int) []int64 {
	list := make([]int64, n)
	for i := range list {
		list[i] = int64(x.next()%3) - 1
	}
	return list
}

// plenty is more draws than what hides so many elements needs.
func plenty(p api.Params, count int) []uint64 {
	x := &mixer{state: p.T}
	return x.draws(2 * count * p.N * (len(p.Q) + 1))
}

// An independent reckoning: the tape's own calls, and numbers one by one.

func isPrime(n uint64) bool { return new(big.Int).SetUint64(n).ProbablyPrime(0) }

// wrapped is the polynomial of these numbers at these powers of X, modulo X^n + 1: X^n is -1.
type wrapped []int64

func (w wrapped) put(power int, v int64) {
	n := len(w)
	if power%(2*n) >= n {
		v = -v
	}
	w[power%n] += v
}

// squareOf is a small polynomial times itself.
func squareOf(s []int64) []int64 {
	out := make(wrapped, len(s))
	for i, v := range s {
		for j, w := range s {
			if v != 0 && w != 0 {
				out.put(i+j, v*w)
			}
		}
	}
	return out
}

// turnedOf is a polynomial with X to the power 3^step for X.
func turnedOf(s []int64, step int) []int64 {
	power := 1
	for range step {
		power = power * 3 % (2 * len(s))
	}
	out := make(wrapped, len(s))
	for i, v := range s {
		out.put(i*power, v)
	}
	return out
}

// residueOf is v modulo q, from 0 on.
func residueOf(v int64, q uint64) uint64 {
	rest := v % int64(q)
	if rest < 0 {
		rest += int64(q)
	}
	return uint64(rest)
}

// timesSecret is a list of residues times a secret: of at most MaxN of them below 2^50 no sum is beyond 2^62.
func timesSecret(a []uint64, s []int64) []int64 {
	out := make(wrapped, len(s))
	for j, w := range s {
		if w == 0 {
			continue
		}
		for i, v := range a {
			out.put(i+j, w*int64(v))
		}
	}
	return out
}

// pieceOf is the element that is f modulo the prime at a place, and 0 modulo all others.
func pieceOf(p api.Params, f []int64, at int) api.Poly {
	var h api.Poly
	for place, q := range p.Q {
		list := make([]uint64, p.N)
		for i := range list {
			if place == at {
				list[i] = residueOf(f[i], q)
			}
		}
		h.R = append(h.R, list)
	}
	return h
}

// nowhere is the place of no prime: the piece there is 0.
const nowhere = -1

// hiddenOf is what hides an element, by the tape's own calls: all residues, then the errors.
func hiddenOf(p api.Params, s []int64, h api.Poly, t *tape.Tape) (b, a api.Poly, err api.Errno) {
	a, err = t.Uniform(p.N, p.Q)
	if err != api.OK {
		return api.Poly{}, api.Poly{}, err
	}
	e, err := t.Errors(p.N, p.Width)
	if err != api.OK {
		return api.Poly{}, api.Poly{}, err
	}
	for place, q := range p.Q {
		product := timesSecret(a.R[place], s)
		list := make([]uint64, p.N)
		for i := range list {
			list[i] = residueOf(int64(h.R[place][i])-product[i]%int64(q)-e[i], q)
		}
		b.R = append(b.R, list)
	}
	return b, a, api.OK
}

func switchOf(p api.Params, s, f []int64, t *tape.Tape) (api.Switch, api.Errno) {
	var k api.Switch
	for place := range p.Q {
		b, a, err := hiddenOf(p, s, pieceOf(p, f, place), t)
		if err != api.OK {
			return api.Switch{}, err
		}
		k.B, k.A = append(k.B, b), append(k.A, a)
	}
	return k, api.OK
}

func allOf(p api.Params, s []int64, steps []int, t *tape.Tape) (api.Keys, api.Errno) {
	relin, err := switchOf(p, s, squareOf(s), t)
	if err != api.OK {
		return api.Keys{}, err
	}
	k := api.Keys{Relin: relin}
	for _, step := range steps {
		key, err := switchOf(p, s, turnedOf(s, step), t)
		if err != api.OK {
			return api.Keys{}, err
		}
		k.Turns = append(k.Turns, api.Turn{Step: step, Key: key})
	}
	return k, api.OK
}

func samePoly(a, b api.Poly) bool {
	return slices.EqualFunc(a.R, b.R, slices.Equal[[]uint64])
}

func sameSwitch(a, b api.Switch) bool {
	return slices.EqualFunc(a.B, b.B, samePoly) && slices.EqualFunc(a.A, b.A, samePoly)
}

func samePublic(a, b api.Public) bool {
	return samePoly(a.B, b.B) && samePoly(a.A, b.A)
}

func sameKeys(a, b api.Keys) bool {
	return sameSwitch(a.Relin, b.Relin) && slices.EqualFunc(a.Turns, b.Turns, func(a, b api.Turn) bool {
		return a.Step == b.Step && sameSwitch(a.Key, b.Key)
	})
}

// primesBelow are the greatest ones below an end that are 1 modulo 2n, falling.
func primesBelow(n int, end uint64, count int) []uint64 {
	var list []uint64
	step := uint64(2 * n)
	for q := (end-2)/step*step + 1; len(list) < count; q -= step {
		if isPrime(q) {
			list = append(list, q)
		}
	}
	return list
}

// leastPrimes are the least ones that are 1 modulo 2n.
func leastPrimes(n, count int) []uint64 {
	var list []uint64
	for q := uint64(2*n + 1); len(list) < count; q += uint64(2 * n) {
		if isPrime(q) {
			list = append(list, q)
		}
	}
	return list
}

func paramsOf(n int, plain uint64, width int, row ...uint64) api.Params {
	return api.Params{N: n, T: plain, Q: row, Width: width}
}

func example() api.Params { return paramsOf(8, 17, 2, 97, 193) }

// small are parameters of few coefficients: the least width and the greatest, the least T and the greatest, one prime up to as many as may be, the least and the greatest.
func small() []api.Params {
	list := []api.Params{example(), paramsOf(8, 17, 1, 97), paramsOf(8, 17, 1, 193, 97), paramsOf(8, 97, api.MaxError, 17)}
	for n := 8; n <= 64; n *= 2 {
		for i, row := range [][]uint64{leastPrimes(n, 3)[1:], leastPrimes(n, 9)[1:], primesBelow(n, primeEnd, 1), primesBelow(n, primeEnd, 3)} {
			list = append(list, paramsOf(n, leastPrimes(n, 1)[0], 1+5*i, row...), paramsOf(n, primesBelow(n, api.MaxT, 1)[0], 2+i, row...))
		}
	}
	return append(list, paramsOf(8, 17, 3, primesBelow(8, primeEnd, api.MaxPrimes)...))
}

// great are parameters of many coefficients, with as many bits as the table's row allows, and with as many primes.
func great() []api.Params {
	return []api.Params{
		paramsOf(128, 257, 2, primesBelow(128, primeEnd, 5)...),
		paramsOf(256, 7681, 4, leastPrimes(256, 9)[1:]...),
		paramsOf(1024, 12289, 2, primesBelow(1024, 1<<27, 1)...),
		paramsOf(2048, 12289, 10, primesBelow(2048, 1<<27, 2)...),
		paramsOf(api.MaxN, 40961, api.MaxError, append(primesBelow(api.MaxN, 1<<36, 2), primesBelow(api.MaxN, 1<<37, 1)...)...),
	}
}

func name(p api.Params) string {
	text := "N " + strconv.Itoa(p.N) + " T " + strconv.FormatUint(p.T, 10) + " Width " + strconv.Itoa(p.Width) + " Q"
	for _, q := range p.Q {
		text += " " + strconv.FormatUint(q, 10)
	}
	return text
}

// secrets are such as N numbers may be: of chance, all alike, and powers of X.
func secrets(n int) [][]int64 {
	last := make([]int64, n)
	last[n-1] = -1
	second := make([]int64, n)
	second[1] = 1
	return [][]int64{(&mixer{state: uint64(n)}).secret(n), make([]int64, n), slices.Repeat([]int64{1}, n), slices.Repeat([]int64{-1}, n), last, second}
}

// stepsOf are some steps of turns: the least ones, one in the middle, the greatest.
func stepsOf(n int) []int {
	if n == 8 {
		return []int{1, 2, 3}
	}
	return []int{1, 2, n / 5, n/2 - 1}
}

// rightLeft holds against each other what two tapes have left.
func rightLeft(t *testing.T, what string, got, want *tape.Tape) {
	t.Helper()
	if got.Left() != want.Left() {
		t.Error("left", what, got.Left(), want.Left())
	}
}

func TestSecretByHand(t *testing.T) {
	for _, one := range []struct {
		draws []uint64
		want  []int64
		left  int
	}{
		{[]uint64{0, 1, 2, 3, 0, 0, 0, 0, 0}, []int64{0, 1, -1, 0, 0, 0, 0, 0}, 0},
		{[]uint64{2, 2, 1, 1, 0, 4, 5, 6, 7, 8, 9}, []int64{-1, -1, 1, 1, 0, 0, 1, -1}, 3},
		{[]uint64{most, most, most - 1, 3, 1 << 63, 1<<63 + 1, 1, 1, 1, 1, 1}, []int64{-1, 0, 1, 1, 1, 1, 1, 1}, 0},
	} {
		draws := tape.New(one.draws)
		s, err := keys.Secret(example(), draws)
		if err != api.OK || !slices.Equal(s, one.want) || draws.Left() != one.left {
			t.Error(one.draws, s, err, draws.Left())
		}
	}
}

func TestSecret(t *testing.T) {
	for _, p := range append(small(), great()...) {
		draws := plenty(p, 1)
		got, want := tape.New(draws), tape.New(draws)
		for range 2 {
			s, err := keys.Secret(p, got)
			numbers, errWanted := want.Ternaries(p.N)
			if err != api.OK || errWanted != api.OK || !slices.Equal(s, numbers) {
				t.Error(name(p), err, errWanted)
			}
			rightLeft(t, name(p), got, want)
			// Of the two beside 0 there are some, and nothing beyond them.
			if len(s) != p.N || slices.Max(s) > 1 || slices.Min(s) < -1 || p.N > 16 && slices.Max(s)-slices.Min(s) != 2 {
				t.Error(name(p), s)
			}
		}
	}
}

// The secret is X - X^2, A is 5 + X^7, the errors are 1, -1 and noughts: A s is 5 X - 5 X^2 - 1 + X, and X^7 X^2 is -X.
func TestPublicByHand(t *testing.T) {
	s := []int64{0, 1, -1, 0, 0, 0, 0, 0}
	draws := tape.New([]uint64{5, 0, 0, 0, 0, 0, 0, 1, 1, 2, 3, 0, 4, 0, 0, 0, 77})
	k, err := keys.Public(paramsOf(8, 17, 1, 97), s, draws)
	want := api.Public{
		B: api.Poly{R: [][]uint64{{0, 92, 5, 0, 0, 0, 0, 0}}}, // 1 - 6 X + 5 X^2, less 1 - X
		A: api.Poly{R: [][]uint64{{5, 0, 0, 0, 0, 0, 0, 1}}},
	}
	if err != api.OK || !samePublic(k, want) || draws.Left() != 1 {
		t.Error(k, err, draws.Left())
	}
}

// All draws are 0, so that A and the errors are, and B is what is hidden.
func TestSwitchesByHand(t *testing.T) {
	s := []int64{0, 1, -1, 0, 0, 0, 0, 0}
	nought := make([]uint64, 8)
	noughts := api.Poly{R: [][]uint64{nought, nought}}
	k, err := keys.All(example(), s, []int{1, 2, 3}, tape.New(make([]uint64, 8*2*3*4)))
	if err != api.OK || len(k.Turns) != 3 {
		t.Fatal(k, err)
	}
	for i, want := range [][2][]uint64{
		{{0, 0, 1, 95, 1, 0, 0, 0}, {0, 0, 1, 191, 1, 0, 0, 0}},    // the square: X^2 - 2 X^3 + X^4
		{{0, 0, 0, 1, 0, 0, 96, 0}, {0, 0, 0, 1, 0, 0, 192, 0}},    // X^3 - X^6
		{{0, 96, 96, 0, 0, 0, 0, 0}, {0, 192, 192, 0, 0, 0, 0, 0}}, // X^9 - X^18 is -X - X^2
		{{0, 0, 0, 96, 0, 0, 96, 0}, {0, 0, 0, 192, 0, 0, 192, 0}}, // X^11 - X^22 is -X^3 - X^6
	} {
		got := k.Relin
		if i > 0 {
			got = k.Turns[i-1].Key
		}
		pieces := []api.Poly{{R: [][]uint64{want[0], nought}}, {R: [][]uint64{nought, want[1]}}}
		if !sameSwitch(got, api.Switch{B: pieces, A: []api.Poly{noughts, noughts}}) {
			t.Error(i, got)
		}
	}
}

// The draws of a pair: the first prime's residues, the second's, the errors; then those of the pair of the second prime.
func TestDrawsOfASwitchByHand(t *testing.T) {
	s := make([]int64, 8)
	s[0] = 1
	var words []uint64
	for pair := range uint64(2) {
		for part := range uint64(3) {
			for place := range uint64(8) {
				words = append(words, 32*pair+8*part+place)
			}
		}
	}
	draws := tape.New(words)
	k, err := keys.Relin(example(), s, draws)
	if err != api.OK || draws.Left() != 0 {
		t.Fatal(err, draws.Left())
	}
	for pair, wantB := range [][2][]uint64{
		// The lowest bits of 16 to 23, and of 48 to 55, are those of 0 to 7: of two and two bits the errors are 0, 1, 1, 2, -1, 0, 0, 1. The square is 1, in the pair's own prime.
		{{1, 95, 94, 92, 94, 92, 91, 89}, {185, 183, 182, 180, 182, 180, 179, 177}},
		{{65, 63, 62, 60, 62, 60, 59, 57}, {154, 151, 150, 148, 150, 148, 147, 145}},
	} {
		for place := range 2 {
			var wantA []uint64
			for i := range uint64(8) {
				wantA = append(wantA, 32*uint64(pair)+8*uint64(place)+i)
			}
			if !slices.Equal(k.A[pair].R[place], wantA) || !slices.Equal(k.B[pair].R[place], wantB[place]) {
				t.Error(pair, place, k.A[pair].R[place], k.B[pair].R[place])
			}
		}
	}
}

func TestPublic(t *testing.T) {
	t.Parallel()
	for _, p := range append(small(), great()...) {
		draws := plenty(p, 2)
		for i, s := range secrets(p.N) {
			if p.N > 64 && i > 0 {
				continue
			}
			got, want := tape.New(draws), tape.New(draws)
			// The second one takes what the first one left.
			for range 2 {
				k, err := keys.Public(p, s, got)
				b, a, errWanted := hiddenOf(p, s, pieceOf(p, s, nowhere), want)
				if err != api.OK || errWanted != api.OK || !samePublic(k, api.Public{B: b, A: a}) {
					t.Error(name(p), i, err, errWanted)
				}
				rightLeft(t, name(p), got, want)
			}
		}
	}
}

func rightSwitch(t *testing.T, what string, p api.Params, s, f []int64, draws []uint64, draw func(t *tape.Tape) (api.Switch, api.Errno)) {
	t.Helper()
	got, want := tape.New(draws), tape.New(draws)
	k, err := draw(got)
	wanted, errWanted := switchOf(p, s, f, want)
	if err != api.OK || errWanted != api.OK || !sameSwitch(k, wanted) {
		t.Error(what, name(p), err, errWanted)
	}
	rightLeft(t, what+" "+name(p), got, want)
	if !keys.Right(p, k) {
		t.Error("not right", what, name(p))
	}
}

func TestRelin(t *testing.T) {
	t.Parallel()
	for _, p := range append(small(), great()...) {
		draws := plenty(p, len(p.Q))
		for i, s := range secrets(p.N) {
			if p.N <= 64 || i == 0 {
				rightSwitch(t, "Relin", p, s, squareOf(s), draws, func(t *tape.Tape) (api.Switch, api.Errno) {
					return keys.Relin(p, s, t)
				})
			}
		}
	}
}

func TestTurn(t *testing.T) {
	t.Parallel()
	for _, p := range append(small(), great()...) {
		draws := plenty(p, len(p.Q))
		for i, s := range secrets(p.N) {
			for _, step := range stepsOf(p.N) {
				if p.N <= 64 || i == 0 && step != 2 {
					rightSwitch(t, "Turn "+strconv.Itoa(step), p, s, turnedOf(s, step), draws, func(t *tape.Tape) (api.Switch, api.Errno) {
						return keys.Turn(p, s, step, t)
					})
				}
			}
		}
	}
}

// Each step of each number of slots up to 32.
func TestTurnOfAllSteps(t *testing.T) {
	for n := 8; n <= 64; n *= 2 {
		p := paramsOf(n, leastPrimes(n, 1)[0], 2, leastPrimes(n, 3)[1:]...)
		draws := plenty(p, len(p.Q))
		s := secrets(n)[0]
		for step := 1; step < n/2; step++ {
			rightSwitch(t, "Turn "+strconv.Itoa(step), p, s, turnedOf(s, step), draws, func(t *tape.Tape) (api.Switch, api.Errno) {
				return keys.Turn(p, s, step, t)
			})
		}
	}
}

// rows are steps: none, each alone, some, and all that there are.
func rows(n int) [][]int {
	list := [][]int{nil, {}, stepsOf(n)}
	for _, step := range stepsOf(n) {
		list = append(list, []int{step})
	}
	var all []int
	for step := 1; step < n/2 && n <= 32; step++ {
		all = append(all, step)
	}
	return append(list, all)
}

func TestAll(t *testing.T) {
	t.Parallel()
	for _, p := range small() {
		s := secrets(p.N)[0]
		for _, steps := range rows(p.N) {
			rightAll(t, p, s, steps)
		}
	}
	for _, p := range great() {
		rightAll(t, p, secrets(p.N)[0], []int{1, p.N/2 - 1})
	}
}

func rightAll(t *testing.T, p api.Params, s []int64, steps []int) {
	t.Helper()
	draws := plenty(p, len(p.Q)*(1+len(steps)))
	got, want := tape.New(draws), tape.New(draws)
	k, err := keys.All(p, s, steps, got)
	wanted, errWanted := allOf(p, s, steps, want)
	if err != api.OK || errWanted != api.OK || !sameKeys(k, wanted) {
		t.Error(name(p), steps, err, errWanted)
	}
	rightLeft(t, name(p), got, want)
}

// All is Relin and Turn, called one behind the other with one tape.
func TestAllIsOneBehindTheOther(t *testing.T) {
	for _, p := range small() {
		s := secrets(p.N)[0]
		steps := stepsOf(p.N)
		draws := plenty(p, len(p.Q)*(1+len(steps)))
		got, want := tape.New(draws), tape.New(draws)
		k, err := keys.All(p, s, steps, got)
		var wanted api.Keys
		wanted.Relin, _ = keys.Relin(p, s, want)
		for _, step := range steps {
			key, _ := keys.Turn(p, s, step, want)
			wanted.Turns = append(wanted.Turns, api.Turn{Step: step, Key: key})
		}
		if err != api.OK || !sameKeys(k, wanted) {
			t.Error(name(p), err)
		}
		rightLeft(t, name(p), got, want)
	}
}

// differs is by which numbers B and A times the secret together differ from what is hidden; false, if they are beyond the width, or are not the same ones modulo all primes.
func differs(p api.Params, s []int64, b, a, h api.Poly) ([]int, bool) {
	numbers := make([]int, p.N)
	for place, q := range p.Q {
		product := timesSecret(a.R[place], s)
		for i := range numbers {
			rest := residueOf(int64(b.R[place][i])+product[i]%int64(q)-int64(h.R[place][i]), q)
			number := int(rest)
			if rest > q/2 {
				number = int(rest) - int(q)
			}
			if place > 0 && number != numbers[i] || number > p.Width || number < -p.Width {
				return nil, false
			}
			numbers[i] = number
		}
	}
	return numbers, true
}

// little holds all pairs of a switch against what they hide.
func little(t *testing.T, what string, p api.Params, s, f []int64, k api.Switch, err api.Errno) {
	t.Helper()
	if err != api.OK || len(k.A) != len(p.Q) || len(k.B) != len(p.Q) {
		t.Fatal(what, name(p), err)
	}
	for place := range p.Q {
		numbers, ok := differs(p, s, k.B[place], k.A[place], pieceOf(p, f, place))
		if !ok {
			t.Error(what, name(p), place)
			continue
		}
		// What hides has some noise on both sides, and, of many numbers, not ever as much as there may be.
		if p.N >= 64 && (slices.Max(numbers) <= 0 || slices.Min(numbers) >= 0) {
			t.Error("noise", what, name(p), place, numbers)
		}
	}
}

func TestPairsHide(t *testing.T) {
	t.Parallel()
	for _, p := range append(small(), great()...) {
		// Of a prime no greater than twice the width all numbers would be little.
		if p.Q[0] <= uint64(2*p.Width) {
			continue
		}
		s := secrets(p.N)[0]
		draws := tape.New(plenty(p, len(p.Q)*8+1))
		k, err := keys.Relin(p, s, draws)
		little(t, "Relin", p, s, squareOf(s), k, err)
		for _, step := range stepsOf(p.N) {
			k, err := keys.Turn(p, s, step, draws)
			little(t, "Turn "+strconv.Itoa(step), p, s, turnedOf(s, step), k, err)
		}
		public, err := keys.Public(p, s, draws)
		if _, ok := differs(p, s, public.B, public.A, pieceOf(p, s, nowhere)); !ok || err != api.OK {
			t.Error("Public", name(p), err)
		}
	}
}

// Draws whose errors are the greatest there may be, on both sides.
func TestPairsHideAtTheWidth(t *testing.T) {
	for width := 1; width <= api.MaxError; width++ {
		p := paramsOf(8, 17, width, 97, 193)
		s := secrets(p.N)[0]
		for draw, want := range map[uint64]int{1<<width - 1: width, (1<<width - 1) << width: -width} {
			words := slices.Repeat([]uint64{draw}, 24)
			k, err := keys.Public(p, s, tape.New(words))
			numbers, ok := differs(p, s, k.B, k.A, pieceOf(p, s, nowhere))
			// B is less the errors.
			if err != api.OK || !ok || !slices.Equal(numbers, slices.Repeat([]int{-want}, p.N)) {
				t.Error(width, want, err, numbers)
			}
		}
	}
}

func BenchmarkRelin(b *testing.B) {
	for _, p := range []api.Params{example(), great()[2], great()[4]} {
		s := secrets(p.N)[0]
		draws := plenty(p, len(p.Q))
		b.Run(strconv.Itoa(p.N), func(b *testing.B) {
			for b.Loop() {
				keys.Relin(p, s, tape.New(draws))
			}
		})
	}
}
