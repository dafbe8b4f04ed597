package pack_test

import (
	"runtime"
	"slices"
	"strconv"
	"testing"

	"arras/api"
)

// wrongParams have one condition of the parameters broken at a time, by numbers that can be written.
func wrongParams() []api.Params {
	return []api.Params{
		{},
		{N: 4, T: 17, Q: []uint64{97, 193}, Width: 2},
		{N: 0, T: 17, Q: []uint64{97, 193}, Width: 2},
		{N: 1, T: 17, Q: []uint64{97, 193}, Width: 2},
		{N: 12, T: 97, Q: []uint64{193}, Width: 2},
		{N: 512, T: 12289, Q: []uint64{13313}, Width: 2},
		{N: 8192, T: 65537, Q: []uint64{114689}, Width: 2},
		{N: 65535, T: 17, Q: []uint64{97, 193}, Width: 2},
		{N: 32768, T: 65537, Q: []uint64{786433}, Width: 2},
		{N: 8, T: 0, Q: []uint64{97, 193}, Width: 2},
		{N: 8, T: 1, Q: []uint64{97, 193}, Width: 2},
		{N: 8, T: 33, Q: []uint64{97, 193}, Width: 2},
		{N: 8, T: 41, Q: []uint64{97, 193}, Width: 2},
		{N: 8, T: 193, Q: []uint64{97, 193}, Width: 2},
		{N: 8, T: 1<<32 - 1, Q: []uint64{97, 193}, Width: 2},
		{N: 8, T: primesBelow(8, api.MaxT+1000, 1)[0], Q: []uint64{97, 193}, Width: 2},
		{N: 8, T: 17, Width: 2},
		{N: 8, T: 17, Q: []uint64{0}, Width: 2},
		{N: 8, T: 17, Q: []uint64{1}, Width: 2},
		{N: 8, T: 17, Q: []uint64{97, 97}, Width: 2},
		{N: 8, T: 17, Q: []uint64{161, 97}, Width: 2},
		{N: 8, T: 17, Q: []uint64{97, 101}, Width: 2},
		{N: 8, T: 17, Q: []uint64{primesBelow(8, primeEnd+1000, 1)[0]}, Width: 2},
		{N: 8, T: 17, Q: []uint64{97, most}, Width: 2},
		{N: 8, T: 17, Q: leastPrimes(8, api.MaxPrimes+2)[1:], Width: 2},
		{N: 8, T: 17, Q: slices.Repeat([]uint64{97}, 255), Width: 2},
		{N: 8, T: 17, Q: []uint64{97, 193}},
		{N: 8, T: 17, Q: []uint64{97, 193}, Width: api.MaxError + 1},
		{N: 8, T: 17, Q: []uint64{97, 193}, Width: 255},
		{N: 1024, T: 12289, Q: primesBelow(1024, 1<<28, 1), Width: 2},
		{N: api.MaxN, T: 40961, Q: primesBelow(api.MaxN, 1<<37, 3), Width: 2},
	}
}

// headOf are the bytes of a kind and parameters, whatever they are.
func headOf(kind int, p api.Params) []byte {
	h := thing{p: p}.numbers()
	h[0].value = uint64(kind)
	return bytesOf(h)
}

// Each beginning of right bytes is too short.
func TestEachBeginningIsShort(t *testing.T) {
	for _, p := range []api.Params{example(), paramsOf(8, 97, 1, 17), paramsOf(8, 17, 3, leastPrimes(8, 9)[1:]...), paramsOf(16, 97, 2, 193, 257)} {
		list := append(oneOfEach(p), (&mixer{}).cipher(p, 2, 0), (&mixer{}).keys(p))
		for _, h := range list {
			b := h.bytes()
			stride := 1
			if len(b) > 8000 {
				stride = 41
			}
			for count := 0; count < len(b); count += stride {
				refused(t, "beginning", h.kind, b[:count], api.ErrShort)
			}
			refused(t, "all but a byte", h.kind, b[:len(b)-1], api.ErrShort)
		}
	}
}

// Of many coefficients those beginnings that end with a number, or just ahead of its last byte.
func TestBeginningsOfManyAreShort(t *testing.T) {
	x := &mixer{}
	for _, p := range great() {
		for _, h := range []thing{x.secret(p), x.public(p), x.cipher(p, 3, len(p.Q)-1)} {
			b := h.bytes()
			all := ends(h.numbers())
			for i := 0; i < len(all)-1; i += 1 + len(all)/40 {
				refused(t, "beginning", h.kind, b[:all[i]], api.ErrShort)
				refused(t, "beginning", h.kind, b[:all[i]-1], api.ErrShort)
			}
			refused(t, "all but a number", h.kind, b[:all[len(all)-2]], api.ErrShort)
			refused(t, "all but a byte", h.kind, b[:len(b)-1], api.ErrShort)
		}
	}
}

func TestNoBytes(t *testing.T) {
	for kind := params; kind <= keys; kind++ {
		refused(t, "nil", kind, nil, api.ErrShort)
		refused(t, "none", kind, []byte{}, api.ErrShort)
	}
}

// A first byte of another kind is told at once, whatever stands behind it, and if nothing does.
func TestOtherKinds(t *testing.T) {
	for _, h := range append(oneOfEach(example()), oneOfEach(great()[2])...) {
		right := h.bytes()
		for kind := params; kind <= keys; kind++ {
			if kind != h.kind {
				refused(t, "right bytes of another kind", kind, right, api.ErrForm)
			}
		}
		for first := range 256 {
			if first == h.kind {
				continue
			}
			right[0] = byte(first)
			for _, count := range []int{1, 2, 9, 20, len(right)} {
				refused(t, "first "+strconv.Itoa(first), h.kind, right[:min(count, len(right))], api.ErrForm)
			}
			refused(t, "and a byte", h.kind, append(slices.Clone(right), 0), api.ErrForm)
		}
	}
}

// Parameters that may not be are told behind the last prime, not earlier and not later.
func TestWrongParametersToRead(t *testing.T) {
	for kind := params; kind <= keys; kind++ {
		for _, p := range wrongParams() {
			b := headOf(kind, p)
			for count := range b {
				refused(t, "ahead of the last prime's end", kind, b[:count], api.ErrShort)
			}
			refused(t, "behind the last prime", kind, b, api.ErrParam)
			for _, more := range []int{1, 2, 100, 2000} {
				refused(t, "and more", kind, append(slices.Clone(b), make([]byte, more)...), api.ErrParam)
				refused(t, "and more", kind, append(slices.Clone(b), slices.Repeat([]byte{255}, more)...), api.ErrParam)
			}
		}
	}
}

// wrongValues are such as may not stand where a number does, by what stands ahead of it.
func wrongValues(p api.Params, v number) []uint64 {
	switch v.what {
	case "parts":
		return []uint64{0, 1, 4, 5, 130, 131, 255}
	case "level":
		top := uint64(len(p.Q) - 1)
		return []uint64{top + 1, top + 2, 127, 128, 254, 255}
	case "sign":
		return []uint64{3, 4, 5, 127, 128, 129, 254, 255}
	case "residue":
		q := v.beside
		return []uint64{q, q + 1, 2 * q, q + 256, q + 1<<32, 1 << 32, 1 << 56, 1 << 63, most - 1, most}
	case "step":
		slots := uint64(p.N / 2)
		return []uint64{0, v.beside, v.beside - min(v.beside, 1), slots, slots + 1, 2 * slots, 256 + slots - 1, 32768, 65535}
	}
	return nil
}

// put are bytes in which a number of so many, up to an end, has another value.
func put(b []byte, size, end int, value uint64) []byte {
	b = slices.Clone(b)
	copy(b[end-size:end], bytesOf([]number{{"", 8, value, 0}})[8-size:])
	return b
}

// Each number that may not stand where it stands is told behind its last byte, not earlier and not later.
func TestNumbersThatMayNotStand(t *testing.T) {
	x := &mixer{}
	for _, p := range []api.Params{example(), paramsOf(8, 97, 1, 17), paramsOf(16, 97, 2, 257, 193, 353), great()[2]} {
		for _, h := range append(oneOfEach(p), x.cipher(p, 2, 0), x.keys(p, 2), x.keys(p, 1, 2, 3)) {
			right, list := h.bytes(), h.numbers()
			all, stride := ends(list), 1+len(list)/150
			for i, v := range list {
				isAmong := v.what == "residue" && i < len(list)-1 && list[i-1].what == "residue"
				if isAmong && i%stride != 0 {
					continue
				}
				for _, value := range wrongValues(p, v) {
					b := put(right, v.size, all[i], value)
					what := v.what + " " + strconv.FormatUint(value, 10)
					refused(t, what+", all", h.kind, b, api.ErrForm)
					refused(t, what+", behind it", h.kind, b[:all[i]], api.ErrForm)
					refused(t, what+", a byte more", h.kind, append(b[:all[i]:all[i]], 255), api.ErrForm)
					refused(t, what+", ahead of its end", h.kind, b[:all[i]-1], api.ErrShort)
					refused(t, what+", ahead of it", h.kind, b[:all[i]-v.size], api.ErrShort)
				}
			}
		}
	}
}

// Steps rise; where they do and are below the slots, they may stand.
func TestStepsToRead(t *testing.T) {
	x, p := &mixer{}, paramsOf(16, 97, 2, 193)
	for first := range 10 {
		for second := range 10 {
			h := x.keys(p, first, second)
			if first < 1 || second <= first || second > 7 {
				refused(t, strconv.Itoa(first)+" "+strconv.Itoa(second), keys, h.bytes(), api.ErrForm)
			} else if got, err := read(keys, h.bytes()); err != api.OK || !sameThing(got, h) {
				t.Error(first, second, err)
			}
		}
	}
	for _, steps := range [][]int{{1, 2, 2}, {1, 3, 2}, {2, 3, 1}, {1, 2, 3, 4, 5, 6, 7, 8}, {1, 2, 3, 4, 5, 6, 7, 7}, {1, 2, 3, 4, 5, 6, 7, 0}, {1, 3, 2, 4}} {
		refused(t, "steps", keys, x.keys(p, steps...).bytes(), api.ErrForm)
	}
}

// A count of more turns than there can be is none that may not stand: the first step that doesn't rise is told, or what is lacking.
func TestMoreTurnsThanSlots(t *testing.T) {
	h := (&mixer{}).keys(paramsOf(8, 17, 2, 97), 1, 2, 3)
	list := h.numbers()
	right, end := h.bytes(), ends(list)[slices.IndexFunc(list, func(v number) bool { return v.what == "turns" })]
	for _, count := range []uint64{4, 5, 255, 256, 65535} {
		b := put(right, 2, end, count)
		refused(t, "short", keys, b, api.ErrShort)
		refused(t, "short by a byte", keys, append(slices.Clone(b), 0), api.ErrShort)
		for _, step := range []byte{0, 1, 3, 4, 5, 255} {
			refused(t, "a step more", keys, append(slices.Clone(b), 0, step), api.ErrForm)
		}
	}
	// Of fewer what stands behind them is told.
	for count := range uint64(3) {
		refused(t, "fewer", keys, put(right, 2, end, count), api.ErrTrail)
	}
}

// A count of primes takes as many as it says: what stands behind them is another thing's.
func TestOtherCountsOfPrimes(t *testing.T) {
	b := headOf(params, example())
	b[8] = 1
	refused(t, "one of two", params, b, api.ErrTrail)
	b[8] = 0
	refused(t, "none of two", params, b, api.ErrParam)
	for _, count := range []byte{3, 8, 9, 255} {
		b[8] = count
		refused(t, "more than two", params, b, api.ErrShort)
	}
}

func TestBytesBehindTheEnd(t *testing.T) {
	for _, p := range []api.Params{example(), paramsOf(8, 97, 1, 17), great()[2]} {
		for _, h := range append(oneOfEach(p), (&mixer{}).keys(p)) {
			b := h.bytes()
			for _, more := range []int{1, 2, 8, 9, 1000} {
				for _, v := range []byte{0, 1, 255} {
					refused(t, "behind", h.kind, append(slices.Clone(b), slices.Repeat([]byte{v}, more)...), api.ErrTrail)
				}
			}
			refused(t, "twice", h.kind, append(slices.Clone(b), b...), api.ErrTrail)
		}
	}
}

// fault is a way to spoil bytes, and what is told of it.
type fault struct {
	what string
	at   int // twice as many bytes as stand up to where it is told: what is lacking comes between two of them
	err  api.Errno
	do   func(b []byte) []byte
}

// faultsOf are those of a thing of one prime, in the order in which they are told.
func faultsOf(h thing) []fault {
	list := h.numbers()
	all := ends(list)
	set := func(at int, value byte) func(b []byte) []byte {
		return func(b []byte) []byte {
			if at < len(b) {
				b[at] = value
			}
			return b
		}
	}
	whole, head := all[len(all)-1], 2*all[5]
	faults := []fault{
		{"kind", 2, api.ErrForm, set(0, 9)},
		{"N", head, api.ErrParam, set(2, 9)},
		{"T", head, api.ErrParam, set(6, 19)},
		{"Width", head, api.ErrParam, set(7, 0)},
		{"prime", head, api.ErrParam, set(16, 96)},
		{"more", 2*whole + 1, api.ErrTrail, func(b []byte) []byte {
			if len(b) < whole {
				return b
			}
			return append(b, 0)
		}},
	}
	for i := range list {
		if len(wrongValues(h.p, list[i])) > 0 {
			faults = append(faults, fault{list[i].what + " number " + strconv.Itoa(i), 2 * all[i], api.ErrForm, set(all[i]-list[i].size, 255)})
		}
	}
	for _, count := range []int{0, 1, 5, all[5] - 1, all[5], all[len(all)/2], whole - 1} {
		if count < whole {
			faults = append(faults, fault{"cut to " + strconv.Itoa(count), 2*count + 1, api.ErrShort, func(b []byte) []byte { return b[:min(count, len(b))] }})
		}
	}
	return faults
}

// Of two faults the one that is told first counts, whichever was made first.
func TestTwoFaults(t *testing.T) {
	x, p := &mixer{}, paramsOf(8, 17, 2, 97)
	for _, h := range []thing{{kind: params, p: p}, x.cipher(p, 2, 0), x.public(p), x.secret(p), x.keys(p, 1, 3)} {
		right := h.bytes()
		for i, first := range faultsOf(h) {
			refused(t, first.what, h.kind, first.do(slices.Clone(right)), first.err)
			for j, second := range faultsOf(h) {
				if i == j {
					continue
				}
				want := first.err
				if second.at < first.at {
					want = second.err
				}
				refused(t, first.what+" and "+second.what, h.kind, second.do(first.do(slices.Clone(right))), want)
			}
		}
	}
}

// Counts that promise far more than the bytes hold cost no room.
func TestPromisesCostNothing(t *testing.T) {
	most := paramsOf(api.MaxN, 40961, api.MaxError, primesBelow(api.MaxN, 1<<36, 3)...)
	relin := (&mixer{}).keys(paramsOf(8, 17, 2, 97)).bytes()
	many := append(relin[:len(relin)-2:len(relin)-2], 255, 255)
	for _, x := range []struct {
		what string
		kind int
		b    []byte
	}{
		{"primes", params, []byte{1, 255, 255, 255, 255, 255, 255, 255, 255}},
		{"numbers of a secret", secret, headOf(secret, most)},
		{"residues of a public key", public, headOf(public, most)},
		{"residues of a ciphertext", cipher, append(headOf(cipher, most), 3, 2)},
		{"residues of keys", keys, headOf(keys, most)},
		{"turns", keys, many},
		{"a turn's residues", keys, append(slices.Clone(many), 0, 1)},
	} {
		var before, behind runtime.MemStats
		runtime.ReadMemStats(&before)
		_, err := read(x.kind, x.b)
		runtime.ReadMemStats(&behind)
		if err != api.ErrShort || behind.TotalAlloc-before.TotalAlloc > 1<<15 {
			t.Error(x.what, err, behind.TotalAlloc-before.TotalAlloc)
		}
	}
}
