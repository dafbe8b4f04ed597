package pack_test

import (
	"math"
	"math/big"
	"slices"
	"strconv"
	"testing"

	"arras/api"
	"arras/pack"
)

const (
	most     = math.MaxUint64
	primeEnd = 1 << 50
)

// The kinds, by their first bytes.
const (
	params = 1
	cipher = 2
	public = 3
	secret = 4
	keys   = 5
)

// mixer tells words that look like chance, the same ones each time.
type mixer struct{ state uint64 }

func (x *mixer) next() uint64 {
	x.state += 0x9e3779b97f4a7c15
	z := x.state
	z = (z ^ z>>30) * 0xbf58476d1ce4e5b9
	z = (z ^ z>>27) * 0x94d049bb133111eb
	return z ^ z>>31
}

// below is a number below an end.
func (x *mixer) below(end int) int { return int(x.next() % uint64(end)) }

// element is one of a row's primes: 0 and the greatest numbers stand in it, first and last too.
func (x *mixer) element(n int, row []uint64) api.Poly {
	var a api.Poly
	for _, q := range row {
		list := make([]uint64, n)
		for i := range list {
			list[i] = []uint64{0, q - 1, 1, x.next() % q, x.next() % q, x.next() % q}[x.next()%6]
		}
		list[x.below(2)*(n-1)] = q - 1
		a.R = append(a.R, list)
	}
	return a
}

// key is a switch of whatever numbers.
func (x *mixer) key(p api.Params) api.Switch {
	var k api.Switch
	for range p.Q {
		k.B = append(k.B, x.element(p.N, p.Q))
		k.A = append(k.A, x.element(p.N, p.Q))
	}
	return k
}

// thing is whatever may be written: of its kind, with parameters.
type thing struct {
	kind   int
	p      api.Params
	c      api.Cipher
	public api.Public
	s      []int64
	keys   api.Keys
}

func (x *mixer) cipher(p api.Params, parts, level int) thing {
	h := thing{kind: cipher, p: p}
	for range parts {
		h.c.C = append(h.c.C, x.element(p.N, p.Q[:level+1]))
	}
	return h
}

func (x *mixer) public(p api.Params) thing {
	return thing{kind: public, p: p, public: api.Public{B: x.element(p.N, p.Q), A: x.element(p.N, p.Q)}}
}

func (x *mixer) secret(p api.Params) thing {
	h := thing{kind: secret, p: p, s: make([]int64, p.N)}
	for i := range h.s {
		h.s[i] = int64(x.below(3)) - 1
	}
	return h
}

func (x *mixer) keys(p api.Params, steps ...int) thing {
	h := thing{kind: keys, p: p, keys: api.Keys{Relin: x.key(p)}}
	for _, step := range steps {
		h.keys.Turns = append(h.keys.Turns, api.Turn{Step: step, Key: x.key(p)})
	}
	return h
}

func paramsOf(n int, plain uint64, width int, row ...uint64) api.Params {
	return api.Params{N: n, T: plain, Q: row, Width: width}
}

func example() api.Params { return paramsOf(8, 17, 2, 97, 193) }

func isPrime(q uint64) bool { return new(big.Int).SetUint64(q).ProbablyPrime(0) }

// primesBelow are the greatest ones below an end that are 1 modulo 2n, falling.
func primesBelow(n int, end uint64, count int) []uint64 {
	var list []uint64
	step := uint64(2 * n)
	for q := (end-2)/step*step + 1; len(list) < count; q -= step {
		if isPrime(q) {
			list = append(list, q)
		}
	}
	return list
}

// leastPrimes are the least ones that are 1 modulo 2n.
func leastPrimes(n, count int) []uint64 {
	var list []uint64
	for q := uint64(2*n + 1); len(list) < count; q += uint64(2 * n) {
		if isPrime(q) {
			list = append(list, q)
		}
	}
	return list
}

// small are parameters of few coefficients: from one prime to the most, of all sizes, rising and falling; T and Width at both ends, and a T beyond the modulus.
func small() []api.Params {
	list := []api.Params{example(), paramsOf(8, 17, 1, 97), paramsOf(8, 97, api.MaxError, 17), paramsOf(8, 257, 3, 193, 17, 97)}
	for count := 1; count <= api.MaxPrimes; count++ {
		list = append(list, paramsOf(8, 17, 2*count, primesBelow(8, primeEnd, count)...))
		list = append(list, paramsOf(16, primesBelow(16, api.MaxT, 1)[0], 2*count-1, leastPrimes(16, count)...))
	}
	return append(list, paramsOf(32, 193, 9, primesBelow(32, 1<<33, 3)...), paramsOf(64, primesBelow(64, api.MaxT, 1)[0], 16, leastPrimes(64, 2)...))
}

// great are parameters of many coefficients: those of two full bytes too, and as many primes as may be.
func great() []api.Params {
	return []api.Params{
		paramsOf(128, 257, 2, primesBelow(128, primeEnd, 5)...),
		paramsOf(256, 7681, 4, leastPrimes(256, 9)[1:]...),
		paramsOf(1024, 12289, 2, primesBelow(1024, 1<<27, 1)...),
		paramsOf(2048, primesBelow(2048, api.MaxT, 1)[0], 10, primesBelow(2048, 1<<27, 2)...),
		paramsOf(api.MaxN, 40961, api.MaxError, append(primesBelow(api.MaxN, 1<<36, 2), primesBelow(api.MaxN, 1<<37, 1)...)...),
		paramsOf(api.MaxN, 65537, 1, 40961),
	}
}

func all() []api.Params { return append(small(), great()...) }

// allSteps are those of all turns.
func allSteps(n int) []int {
	var list []int
	for step := 1; step < n/2; step++ {
		list = append(list, step)
	}
	return list
}

// stepsOf are rows of steps that turns may have, from none to all of few.
func stepsOf(n int) [][]int {
	list := [][]int{nil, {1}, {n/2 - 1}, {1, 2, n/2 - 1}}
	if n == 8 || n == 16 {
		list = append(list, allSteps(n))
	}
	return list
}

// thingsOf are things of all kinds.
func thingsOf(p api.Params) []thing {
	x := &mixer{state: p.T + uint64(p.N)}
	list := []thing{{kind: params, p: p}, x.public(p), x.secret(p)}
	for level := range p.Q {
		list = append(list, x.cipher(p, 2, level), x.cipher(p, 3, level))
	}
	for _, v := range []int64{-1, 0, 1} {
		list = append(list, thing{kind: secret, p: p, s: slices.Repeat([]int64{v}, p.N)})
	}
	for _, steps := range stepsOf(p.N) {
		list = append(list, x.keys(p, steps...))
	}
	return list
}

// oneOfEach is a thing of each kind, of not too many bytes.
func oneOfEach(p api.Params) []thing {
	x := &mixer{state: p.T}
	return []thing{{kind: params, p: p}, x.cipher(p, 3, len(p.Q)-1), x.public(p), x.secret(p), x.keys(p, 1, p.N/2-1)}
}

func (h thing) write() ([]byte, api.Errno) {
	switch h.kind {
	case params:
		return pack.Params(h.p)
	case cipher:
		return pack.Cipher(h.p, h.c)
	case public:
		return pack.Public(h.p, h.public)
	case secret:
		return pack.Secret(h.p, h.s)
	}
	return pack.Keys(h.p, h.keys)
}

func read(kind int, b []byte) (thing, api.Errno) {
	h := thing{kind: kind}
	var err api.Errno
	switch kind {
	case params:
		h.p, err = pack.ReadParams(b)
	case cipher:
		h.p, h.c, err = pack.ReadCipher(b)
	case public:
		h.p, h.public, err = pack.ReadPublic(b)
	case secret:
		h.p, h.s, err = pack.ReadSecret(b)
	default:
		h.p, h.keys, err = pack.ReadKeys(b)
	}
	return h, err
}

func sameElement(a, b api.Poly) bool { return slices.EqualFunc(a.R, b.R, slices.Equal[[]uint64]) }

func sameElements(a, b []api.Poly) bool { return slices.EqualFunc(a, b, sameElement) }

func sameSwitch(a, b api.Switch) bool { return sameElements(a.B, b.B) && sameElements(a.A, b.A) }

func sameTurn(a, b api.Turn) bool { return a.Step == b.Step && sameSwitch(a.Key, b.Key) }

func sameThing(a, b thing) bool {
	sameParams := a.kind == b.kind && a.p.N == b.p.N && a.p.T == b.p.T && a.p.Width == b.p.Width && slices.Equal(a.p.Q, b.p.Q)
	samePublic := sameElement(a.public.B, b.public.B) && sameElement(a.public.A, b.public.A)
	sameKeys := sameSwitch(a.keys.Relin, b.keys.Relin) && slices.EqualFunc(a.keys.Turns, b.keys.Turns, sameTurn)
	return sameParams && sameElements(a.c.C, b.c.C) && samePublic && slices.Equal(a.s, b.s) && sameKeys
}

func kindName(kind int) string {
	return []string{"", "Params", "Cipher", "Public", "Secret", "Keys"}[kind]
}

func (h thing) name() string {
	text := kindName(h.kind) + " N " + strconv.Itoa(h.p.N) + " T " + strconv.FormatUint(h.p.T, 10) + " Width " + strconv.Itoa(h.p.Width) + " Q"
	for _, q := range h.p.Q {
		text += " " + strconv.FormatUint(q, 10)
	}
	if h.kind == cipher && len(h.c.C) > 0 {
		text += " parts " + strconv.Itoa(len(h.c.C)) + " level " + strconv.Itoa(len(h.c.C[0].R)-1)
	}
	if h.kind == keys {
		text += " turns " + strconv.Itoa(len(h.keys.Turns))
	}
	return text
}

// number is one that is written: so many bytes.
type number struct {
	what   string
	size   int
	value  uint64
	beside uint64 // a residue's prime; of a step the one ahead of it
}

// numbers are those of a thing, in the chapter's order.
func (h thing) numbers() []number {
	list := []number{{"kind", 1, uint64(h.kind), 0}, {"N", 2, uint64(h.p.N), 0}, {"T", 4, h.p.T, 0}, {"Width", 1, uint64(h.p.Width), 0}, {"primes", 1, uint64(len(h.p.Q)), 0}}
	for _, q := range h.p.Q {
		list = append(list, number{"prime", 8, q, 0})
	}
	switch h.kind {
	case cipher:
		list = append(list, number{"parts", 1, uint64(len(h.c.C)), 0}, number{"level", 1, uint64(len(h.c.C[0].R) - 1), 0})
		list = append(list, residues(h.p, h.c.C...)...)
	case public:
		list = append(list, residues(h.p, h.public.B, h.public.A)...)
	case secret:
		for _, v := range h.s {
			list = append(list, number{"sign", 1, map[int64]uint64{0: 0, 1: 1, -1: 2}[v], 0})
		}
	case keys:
		list = append(append(list, switched(h.p, h.keys.Relin)...), number{"turns", 2, uint64(len(h.keys.Turns)), 0})
		last := 0
		for _, turn := range h.keys.Turns {
			list = append(append(list, number{"step", 2, uint64(turn.Step), uint64(last)}), switched(h.p, turn.Key)...)
			last = turn.Step
		}
	}
	return list
}

func residues(p api.Params, elements ...api.Poly) []number {
	var list []number
	for _, a := range elements {
		for place, one := range a.R {
			for _, residue := range one {
				list = append(list, number{"residue", 8, residue, p.Q[place]})
			}
		}
	}
	return list
}

func switched(p api.Params, k api.Switch) []number {
	var list []number
	for i := range k.B {
		list = append(list, residues(p, k.B[i], k.A[i])...)
	}
	return list
}

// bytesOf are numbers, each with its highest byte first.
func bytesOf(list []number) []byte {
	var b []byte
	for _, v := range list {
		b = append(b, new(big.Int).SetUint64(v.value).FillBytes(make([]byte, v.size))...)
	}
	return b
}

func (h thing) bytes() []byte { return bytesOf(h.numbers()) }

// ends are where each number's last byte stands: how many bytes there are up to it.
func ends(list []number) []int {
	at, all := 0, make([]int, len(list))
	for i, v := range list {
		at += v.size
		all[i] = at
	}
	return all
}

// written is a thing's, or the test ends.
func written(t testing.TB, h thing) []byte {
	t.Helper()
	b, err := h.write()
	if err != api.OK {
		t.Fatal(h.name(), err)
	}
	return b
}

// refused tries to read: beside the error there is nothing.
func refused(t *testing.T, what string, kind int, b []byte, want api.Errno) {
	t.Helper()
	if got, err := read(kind, b); err != want || !sameThing(got, thing{kind: kind}) {
		t.Error(what, kindName(kind), len(b), err, want, got.p)
	}
}

// refusedToWrite tries to write: beside the error there is nothing.
func refusedToWrite(t *testing.T, what string, h thing, want api.Errno) {
	t.Helper()
	if b, err := h.write(); err != want || len(b) != 0 {
		t.Error(what, h.name(), err, want, len(b))
	}
}
