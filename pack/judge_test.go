package pack_test

import (
	"bytes"
	"math/big"
	"slices"
	"testing"

	"arras/api"
)

// judge reads bytes by the chapter's words alone, and tells no more than the first thing that is wrong.
type judge struct {
	b  []byte
	at int
}

// must ends it all with an error, if a thing doesn't hold.
func must(holds bool, err api.Errno) {
	if !holds {
		panic(err)
	}
}

func (j *judge) take(size int) uint64 {
	must(j.at+size <= len(j.b), api.ErrShort)
	j.at += size
	return new(big.Int).SetBytes(j.b[j.at-size : j.at]).Uint64()
}

func mayBe(p api.Params) bool {
	allowed, friendly := map[int]int{8: 420, 16: 420, 32: 420, 64: 420, 128: 420, 256: 420, 1024: 27, 2048: 54, 4096: 109}[p.N], true
	if allowed == 0 || p.Width < 1 || p.Width > 16 || p.T >= 1<<30 || len(p.Q) < 1 || len(p.Q) > 8 {
		return false
	}
	product := big.NewInt(1)
	for i, q := range append([]uint64{p.T}, p.Q...) {
		friendly = friendly && q < 1<<50 && q%uint64(2*p.N) == 1 && isPrime(q) && slices.Index(append([]uint64{p.T}, p.Q...), q) == i
		if i > 0 {
			product.Mul(product, new(big.Int).SetUint64(q))
		}
	}
	return friendly && product.BitLen() <= allowed
}

func (j *judge) params(kind int) api.Params {
	must(j.take(1) == uint64(kind), api.ErrForm)
	p := api.Params{N: int(j.take(2)), T: j.take(4), Width: int(j.take(1))}
	for count := j.take(1); count > 0; count-- {
		p.Q = append(p.Q, j.take(8))
	}
	must(mayBe(p), api.ErrParam)
	return p
}

func (j *judge) element(n int, row []uint64) {
	for _, q := range row {
		for range n {
			must(j.take(8) < q, api.ErrForm)
		}
	}
}

func (j *judge) key(p api.Params) {
	for range 2 * len(p.Q) {
		j.element(p.N, p.Q)
	}
}

func (j *judge) part(kind int, p api.Params) {
	switch kind {
	case cipher:
		parts := j.take(1)
		must(parts == 2 || parts == 3, api.ErrForm)
		level := j.take(1)
		must(level < uint64(len(p.Q)), api.ErrForm)
		for range parts {
			j.element(p.N, p.Q[:level+1])
		}
	case public:
		j.element(p.N, p.Q)
		j.element(p.N, p.Q)
	case secret:
		for range p.N {
			must(j.take(1) <= 2, api.ErrForm)
		}
	case keys:
		j.key(p)
		last := uint64(0)
		for count := j.take(2); count > 0; count-- {
			step := j.take(2)
			must(step > last && step < uint64(p.N)/2, api.ErrForm)
			j.key(p)
			last = step
		}
	}
}

// judged is what comes of reading bytes as a kind.
func judged(kind int, b []byte) (err api.Errno) {
	defer func() {
		if wrong, is := recover().(api.Errno); is {
			err = wrong
		}
	}()
	j := &judge{b: b}
	j.part(kind, j.params(kind))
	must(j.at == len(b), api.ErrTrail)
	return api.OK
}

// isAsJudged reads bytes as a kind: the error is the judge's, and what is read is written as the same bytes.
func isAsJudged(t *testing.T, kind int, b []byte) api.Errno {
	t.Helper()
	want := judged(kind, b)
	if want != api.OK {
		refused(t, "judged", kind, b, want)
		return want
	}
	got, err := read(kind, b)
	if again, errWritten := got.write(); err != api.OK || errWritten != api.OK || !bytes.Equal(again, b) {
		t.Error(kindName(kind), err, errWritten, len(b), got.p)
	}
	return want
}

// isJudgedAsAll reads bytes as each kind.
func isJudgedAsAll(t *testing.T, b []byte) {
	t.Helper()
	for kind := params; kind <= keys; kind++ {
		isAsJudged(t, kind, b)
	}
}

// spoilt are bytes of which something was changed: a bit, a byte, a number, the end, or a byte more or less.
func (x *mixer) spoilt(h thing, b []byte) []byte {
	b = slices.Clone(b)
	if len(b) == 0 {
		return b
	}
	at := x.below(len(b))
	if x.below(2) == 0 {
		at = x.below(min(len(b), 40))
	}
	switch x.below(8) {
	case 0:
		b[at] ^= 1 << x.below(8)
	case 1:
		b[at] = byte(x.next())
	case 2:
		b[at] = []byte{0, 1, 2, 3, 4, 5, 128, 255}[x.below(8)]
	case 3:
		b = b[:at]
	case 4:
		b = append(b, make([]byte, 1+x.below(20))...)
	case 5:
		b = slices.Delete(b, at, at+1)
	case 6:
		b = slices.Insert(b, at, byte(x.below(4)))
	default:
		return x.renumbered(h, b)
	}
	return b
}

// renumbered are bytes in which a number of the thing was put otherwise, where it stands if nothing ahead of it was changed.
func (x *mixer) renumbered(h thing, b []byte) []byte {
	list := h.numbers()
	i := x.below(len(list))
	end := ends(list)[i]
	if end > len(b) {
		return b
	}
	q := h.p.Q[x.below(len(h.p.Q))]
	value := []uint64{0, 1, 2, 3, q - 1, q, q + 1, x.next() % q, list[i].value + 1, list[i].value - 1, most, x.next()}[x.below(12)]
	return put(b, list[i].size, end, value)
}

// judgedParams are few enough for many tries, and such as are alike but for a number.
func judgedParams() []api.Params {
	return []api.Params{example(), paramsOf(8, 17, 1, 97), paramsOf(8, 97, 16, 17), paramsOf(8, 17, 2, 193, 97), paramsOf(8, 113, 3, 97, 17, 193), paramsOf(16, 97, 2, 193, 257)}
}

// Whatever is changed of right bytes, the first thing that is wrong counts, or nothing is wrong and the bytes come back.
func TestSpoiltBytesAreJudgedAlike(t *testing.T) {
	x, told := &mixer{state: 1}, map[api.Errno]int{}
	for _, p := range judgedParams() {
		for _, h := range append(oneOfEach(p), x.cipher(p, 2, 0), x.keys(p), x.keys(p, allSteps(p.N)...)) {
			right := h.bytes()
			for range 1500 {
				b := right
				for range 1 + x.below(3) {
					b = x.spoilt(h, b)
				}
				told[isAsJudged(t, h.kind, b)]++
			}
		}
	}
	for _, err := range []api.Errno{api.OK, api.ErrShort, api.ErrForm, api.ErrParam, api.ErrTrail} {
		if told[err] < 200 {
			t.Error("too few tries", err, told[err])
		}
	}
}

// Each one of the first bytes is put otherwise in all ways, and so is each byte of a secret.
func TestEachByteInAllWays(t *testing.T) {
	for _, p := range judgedParams()[:2] {
		for _, h := range oneOfEach(p) {
			right := h.bytes()
			for at := range right[:min(len(right), 60)] {
				for v := range 256 {
					b := slices.Clone(right)
					b[at] = byte(v)
					isAsJudged(t, h.kind, b)
				}
			}
		}
	}
}

// Rows of few bytes of any kind, and of bytes that look like chance.
func TestAnyBytesAreJudgedAlike(t *testing.T) {
	x := &mixer{state: 2}
	isJudgedAsAll(t, nil)
	isJudgedAsAll(t, []byte{})
	for first := range 256 {
		isJudgedAsAll(t, []byte{byte(first)})
		for second := range 256 {
			isJudgedAsAll(t, []byte{byte(first), byte(second)})
		}
	}
	for range 3000 {
		b := make([]byte, x.below(60))
		for i := range b {
			b[i] = []byte{0, 0, 1, 2, 5, 8, 17, 97, byte(x.next())}[x.below(9)]
		}
		isJudgedAsAll(t, b)
		if len(b) > 0 {
			b[0] = byte(1 + x.below(5))
			isJudgedAsAll(t, b)
		}
	}
}

// FuzzRead tries any bytes.
func FuzzRead(f *testing.F) {
	for _, h := range oneOfEach(example()) {
		f.Add(h.bytes())
	}
	f.Fuzz(isJudgedAsAll)
}
