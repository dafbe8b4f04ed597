package bound_test

import (
	"math"
	"math/big"
	"slices"
	"strconv"
	"testing"

	"arras/api"
	"arras/bound"
)

const (
	mostWord = math.MaxUint64
	primeEnd = 1 << 50
)

// mixer tells words that look like chance, the same ones each time.
type mixer struct{ state uint64 }

func (x *mixer) next() uint64 {
	x.state += 0x9e3779b97f4a7c15
	z := x.state
	z = (z ^ z>>30) * 0xbf58476d1ce4e5b9
	z = (z ^ z>>27) * 0x94d049bb133111eb
	return z ^ z>>31
}

// numbers are n below an end, some of them 0, the greatest, and those about the middle.
func (x *mixer) numbers(n int, end uint64) []uint64 {
	list := make([]uint64, n)
	for i := range list {
		list[i] = []uint64{0, end - 1, end / 2, end/2 + 1, x.next() % end, x.next() % end, x.next() % end, x.next() % end}[x.next()%8]
	}
	return list
}

func word(w uint64) *big.Int { return new(big.Int).SetUint64(w) }

// power is 2 to a power, and more.
func power(bits uint, more int64) *big.Int {
	v := new(big.Int).Lsh(big.NewInt(1), bits)
	return v.Add(v, big.NewInt(more))
}

func productOf(row []uint64) *big.Int {
	product := big.NewInt(1)
	for _, q := range row {
		product.Mul(product, word(q))
	}
	return product
}

// told is a natural as it should be told.
func told(v *big.Int) api.Nat {
	var size api.Nat
	for left := new(big.Int).Set(v); left.Sign() > 0; left.Rsh(left, 64) {
		size = append(size, new(big.Int).And(left, word(mostWord)).Uint64())
	}
	return size
}

func primesBelow(n int, end uint64, count int) []uint64 {
	var list []uint64
	step := uint64(2 * n)
	for q := (end-2)/step*step + 1; len(list) < count; q -= step {
		if word(q).ProbablyPrime(0) {
			list = append(list, q)
		}
	}
	return list
}

func leastPrimes(n, count int) []uint64 {
	var list []uint64
	for q := uint64(2*n + 1); len(list) < count; q += uint64(2 * n) {
		if word(q).ProbablyPrime(0) {
			list = append(list, q)
		}
	}
	return list
}

func paramsOf(n int, plain uint64, width int, row ...uint64) api.Params {
	return api.Params{N: n, T: plain, Q: row, Width: width}
}

func example() api.Params { return paramsOf(8, 17, 2, 97, 193) }

// all are parameters of all sizes: the least width and the greatest, the least T and the greatest, a T beyond the modulus, one prime up to as many as may be, the least and the greatest, rising and falling.
func all() []api.Params {
	list := []api.Params{example(), paramsOf(8, 17, 1, 97), paramsOf(8, 17, 1, 193, 97), paramsOf(8, 97, api.MaxError, 17), paramsOf(8, 257, 3, 17, 97, 113)}
	for n := 8; n <= 256; n *= 2 {
		for i, row := range [][]uint64{leastPrimes(n, 3)[1:], leastPrimes(n, 9)[1:], primesBelow(n, primeEnd, 1), primesBelow(n, primeEnd, 3)} {
			list = append(list, paramsOf(n, leastPrimes(n, 1)[0], 1+5*i, row...), paramsOf(n, primesBelow(n, api.MaxT, 1)[0], 2+i, row...))
		}
	}
	return append(list,
		paramsOf(8, 17, 3, primesBelow(8, primeEnd, api.MaxPrimes)...),
		paramsOf(1024, 12289, 2, primesBelow(1024, 1<<27, 1)...),
		paramsOf(2048, 12289, 10, primesBelow(2048, 1<<27, 2)...),
		paramsOf(api.MaxN, primesBelow(api.MaxN, api.MaxT, 1)[0], api.MaxError, primesBelow(api.MaxN, primeEnd, 2)...),
		paramsOf(api.MaxN, 40961, api.MaxError, append(primesBelow(api.MaxN, 1<<36, 2), primesBelow(api.MaxN, 1<<37, 1)...)...))
}

func name(p api.Params) string {
	text := "N " + strconv.Itoa(p.N) + " T " + strconv.FormatUint(p.T, 10) + " Width " + strconv.Itoa(p.Width) + " Q"
	for _, q := range p.Q {
		text += " " + strconv.FormatUint(q, 10)
	}
	return text
}

func nameAt(p api.Params, level int) string { return name(p) + " level " + strconv.Itoa(level) }

// An independent reckoning of the table: terms of whole numbers by math/big, each quotient rounded by itself.

// terms are what a bound is summed up of.
type terms []*big.Int

func (l terms) sum() *big.Int {
	sum := new(big.Int)
	for _, v := range l {
		sum.Add(sum, v)
	}
	return sum
}

func times(factors ...*big.Int) *big.Int {
	product := big.NewInt(1)
	for _, v := range factors {
		product.Mul(product, v)
	}
	return product
}

// up is a quotient rounded up: the least number that times the divisor is no less.
func up(x, y *big.Int) *big.Int {
	quotient := new(big.Int).Quo(x, y)
	if times(quotient, y).Cmp(x) < 0 {
		quotient.Add(quotient, big.NewInt(1))
	}
	return quotient
}

// facts are what the table speaks of at a level.
type facts struct {
	n, t, w, q, modulus, rest *big.Int
	row                       []uint64
}

func factsOf(p api.Params, level int) facts {
	row := p.Q[:level+1]
	f := facts{n: big.NewInt(int64(p.N)), t: word(p.T), w: big.NewInt(int64(p.Width)), q: word(row[level]), modulus: productOf(row), row: row}
	f.rest = new(big.Int).Mod(f.modulus, f.t)
	return f
}

var one, two = big.NewInt(1), big.NewInt(2)

// halves are up((1 + N) / 2), and up((1 + N + N N) / 2) of three parts.
func (f facts) halves(parts int) *big.Int {
	sum := terms{one, f.n}
	if parts == 3 {
		sum = append(sum, times(f.n, f.n))
	}
	return up(sum.sum(), two)
}

func (f facts) fresh() *big.Int {
	return times(f.w, terms{times(two, f.n), one}.sum())
}

func (f facts) add(a, b *big.Int) *big.Int { return terms{a, b, f.rest}.sum() }

func (f facts) addText(a *big.Int) *big.Int { return terms{a, f.rest}.sum() }

func (f facts) mulText(a *big.Int, text []uint64) *big.Int {
	size := new(big.Int)
	for _, c := range text {
		v := word(c)
		if least := new(big.Int).Sub(f.t, v); least.Cmp(v) < 0 {
			v = least
		}
		size.Add(size, v)
	}
	half := new(big.Int).Rsh(terms{size, one}.sum(), 1)
	return terms{times(a, size), times(f.rest, half)}.sum()
}

func (f facts) mul(a, b *big.Int) *big.Int {
	half := new(big.Int).Rsh(f.n, 1)
	k := terms{half, one}.sum()
	return terms{
		times(f.rest, terms{times(half, f.t), one, times(f.n, k, f.t)}.sum()),
		times(terms{times(half, f.t), times(f.n, f.t, k)}.sum(), terms{a, b}.sum()),
		up(times(f.n, f.t, a, b), f.modulus),
		f.halves(3),
	}.sum()
}

func (f facts) switched(a *big.Int) *big.Int {
	sum := terms{a}
	for _, q := range f.row {
		sum = append(sum, times(f.n, f.w, word((q-1)/2)))
	}
	return sum.sum()
}

func (f facts) lower(a *big.Int, parts int) *big.Int {
	return terms{up(a, f.q), new(big.Int).Rsh(f.t, 1), f.halves(parts)}.sum()
}

// most is the greatest bound that fits; it is below 0, if none does.
func (f facts) most() *big.Int {
	// 2 T a is at most the modulus less 1 less rest (T - 1).
	room := new(big.Int).Sub(f.modulus, one)
	room.Sub(room, times(f.rest, new(big.Int).Sub(f.t, one)))
	return room.Div(room, times(two, f.t))
}

// bounds are such as are handed in: 0, small ones, those about which quotients come out even, and very great ones.
func (f facts) bounds() []*big.Int {
	list := []*big.Int{new(big.Int), one, two, big.NewInt(7), f.fresh(), power(63, 0), power(64, -1), power(64, 0), power(64, 1), power(1000, -1), power(5000, 3)}
	for _, v := range []*big.Int{f.q, times(f.q, big.NewInt(1000)), f.modulus, times(f.modulus, f.modulus), new(big.Int).Rsh(f.modulus, 1), new(big.Int).Div(f.modulus, f.q), times(f.q, power(300, 0))} {
		list = append(list, v, terms{v, one}.sum(), terms{v, big.NewInt(-1)}.sum())
	}
	return list
}

func right(t *testing.T, what string, got api.Nat, err api.Errno, want *big.Int) {
	t.Helper()
	if err != api.OK || !slices.Equal(got, told(want)) {
		t.Error(what, got, err, want)
	}
}

// overAll goes over all parameters and their levels.
func overAll(do func(what string, p api.Params, level int, f facts)) {
	for _, p := range all() {
		for level := range p.Q {
			do(nameAt(p, level), p, level, factsOf(p, level))
		}
	}
}

func TestFresh(t *testing.T) {
	for _, p := range all() {
		got, err := bound.Fresh(p)
		right(t, name(p), got, err, factsOf(p, 0).fresh())
	}
}

func TestFreshOfAllWidths(t *testing.T) {
	for width := 1; width <= api.MaxError; width++ {
		got, err := bound.Fresh(paramsOf(8, 17, width, 97, 193))
		right(t, "width "+strconv.Itoa(width), got, err, big.NewInt(int64(17*width)))
	}
}

func TestAdd(t *testing.T) {
	t.Parallel()
	overAll(func(what string, p api.Params, level int, f facts) {
		list := f.bounds()
		for i, a := range list {
			for _, b := range []*big.Int{list[0], a, list[len(list)-1-i], list[(i+5)%len(list)]} {
				got, err := bound.Add(p, level, told(a), told(b))
				right(t, what, got, err, f.add(a, b))
			}
		}
	})
}

func TestAddText(t *testing.T) {
	t.Parallel()
	overAll(func(what string, p api.Params, level int, f facts) {
		for _, a := range f.bounds() {
			got, err := bound.AddText(p, level, told(a))
			right(t, what, got, err, f.addText(a))
		}
	})
}

// texts are mixed, all alike at all ends, and such whose sizes together are 1, 2 and 3.
func texts(p api.Params) [][]uint64 {
	list := [][]uint64{(&mixer{state: p.T}).numbers(p.N, p.T)}
	for _, v := range []uint64{0, 1, p.T - 1, p.T / 2, p.T/2 + 1} {
		list = append(list, slices.Repeat([]uint64{v}, p.N))
	}
	for _, ends := range [][2]uint64{{1, 0}, {0, p.T - 1}, {1, 1}, {1, p.T - 1}, {p.T - 2, 0}, {p.T - 2, 1}, {p.T / 2, 1}, {p.T/2 + 1, p.T - 1}, {p.T / 2, 0}} {
		text := make([]uint64, p.N)
		text[0], text[p.N-1] = ends[0], ends[1]
		list = append(list, text)
	}
	return list
}

func TestMulText(t *testing.T) {
	t.Parallel()
	overAll(func(what string, p api.Params, level int, f facts) {
		list := f.bounds()
		for i, text := range texts(p) {
			for j, a := range list {
				if p.N <= 16 || j%len(list) == i || j < 2 {
					got, err := bound.MulText(p, level, told(a), text)
					right(t, what+" text "+strconv.Itoa(i), got, err, f.mulText(a, text))
				}
			}
		}
	})
}

func TestMul(t *testing.T) {
	t.Parallel()
	overAll(func(what string, p api.Params, level int, f facts) {
		list := f.bounds()
		for i, a := range list {
			for j, b := range list {
				if p.N > 8 && (i+j)%9 > 1 {
					continue
				}
				got, err := bound.Mul(p, level, told(a), told(b))
				right(t, what, got, err, f.mul(a, b))
			}
		}
	})
}

func TestSwitch(t *testing.T) {
	t.Parallel()
	overAll(func(what string, p api.Params, level int, f facts) {
		for _, a := range f.bounds() {
			got, err := bound.Switch(p, level, told(a))
			right(t, what, got, err, f.switched(a))
		}
	})
}

func TestLower(t *testing.T) {
	t.Parallel()
	overAll(func(what string, p api.Params, level int, f facts) {
		for _, a := range f.bounds() {
			for parts := 2; parts <= 3 && level > 0; parts++ {
				got, err := bound.Lower(p, level, parts, told(a))
				right(t, what+" parts "+strconv.Itoa(parts), got, err, f.lower(a, parts))
			}
		}
	})
}

// The greatest bound that fits, and one more; all bounds, and none where even 0 doesn't.
func TestFits(t *testing.T) {
	t.Parallel()
	none, some := 0, 0
	overAll(func(what string, p api.Params, level int, f facts) {
		most := f.most()
		list := append(f.bounds(), terms{most, one}.sum(), terms{most, two}.sum(), most, new(big.Int).Sub(most, one))
		for _, a := range list {
			if a.Sign() < 0 {
				continue
			}
			if got := bound.Fits(p, level, told(a)); got != (a.Cmp(most) <= 0) {
				t.Error(what, a, most, got)
			}
		}
		if most.Sign() < 0 {
			none++
		} else {
			some++
		}
	})
	if none < 10 || some < 10 {
		t.Error("too few that fit, or don't", none, some)
	}
}

// Last words that are 0 make no difference, and the last word that is told isn't 0.
func TestLastWordsThatAreNought(t *testing.T) {
	p := example()
	f := factsOf(p, 1)
	a, b := api.Nat{5, 0, 0}, api.Nat{0, 0}
	five, nought := big.NewInt(5), new(big.Int)
	got, err := bound.Add(p, 1, a, b)
	right(t, "Add", got, err, f.add(five, nought))
	got, err = bound.AddText(p, 1, a)
	right(t, "AddText", got, err, f.addText(five))
	got, err = bound.MulText(p, 1, a, texts(p)[0])
	right(t, "MulText", got, err, f.mulText(five, texts(p)[0]))
	got, err = bound.Mul(p, 1, a, b)
	right(t, "Mul", got, err, f.mul(five, nought))
	got, err = bound.Switch(p, 1, a)
	right(t, "Switch", got, err, f.switched(five))
	got, err = bound.Lower(p, 1, 2, a)
	right(t, "Lower", got, err, f.lower(five, 2))
	// By a text of noughts, no noise is left.
	got, err = bound.MulText(p, 1, a, make([]uint64, 8))
	right(t, "MulText by 0", got, err, nought)
	if !bound.Fits(p, 1, a) {
		t.Error("Fits")
	}
}

// With a pen, of N 8, T 17, Width 2, at level 1: modulus 18721, rest 4; at level 0: 97, rest 12.
func TestByHand(t *testing.T) {
	p := example()
	nat := func(v uint64) api.Nat { return told(word(v)) }
	text := []uint64{1, 16, 8, 9, 0, 0, 2, 0} // sizes 1, 1, 8, 8, 2: 20 together
	for what, one := range map[string]func() (api.Nat, api.Errno){
		// 2 times 17.
		"34 Fresh": func() (api.Nat, api.Errno) { return bound.Fresh(p) },
		"11 Add":   func() (api.Nat, api.Errno) { return bound.Add(p, 1, nat(3), nat(4)) },
		"19 Add 0": func() (api.Nat, api.Errno) { return bound.Add(p, 0, nat(3), nat(4)) },
		"7 Text":   func() (api.Nat, api.Errno) { return bound.AddText(p, 1, nat(3)) },
		"15 Text0": func() (api.Nat, api.Errno) { return bound.AddText(p, 0, nat(3)) },
		// 3 times 20, and 4 times 10 (10 and a half, rounded down).
		"100 MulText": func() (api.Nat, api.Errno) { return bound.MulText(p, 1, nat(3), text) },
		// K is 5: 4 (68 + 1 + 680) + (68 + 680) 7 + up(136 12 / 18721) + up(73 / 2): 2996 + 5236 + 1 + 37.
		"8270 Mul": func() (api.Nat, api.Errno) { return bound.Mul(p, 1, nat(3), nat(4)) },
		// Of 0 the quotient is 0: 2996 + 2244 + 37.
		"5277 Mul by 0": func() (api.Nat, api.Errno) { return bound.Mul(p, 1, nat(3), nil) },
		// 3, 16 times 48, 16 times 96.
		"2307 Switch":   func() (api.Nat, api.Errno) { return bound.Switch(p, 1, nat(3)) },
		"771 Switch 0":  func() (api.Nat, api.Errno) { return bound.Switch(p, 0, nat(3)) },
		"14 Lower":      func() (api.Nat, api.Errno) { return bound.Lower(p, 1, 2, nat(193)) }, // 1 + 8 + 5
		"15 Lower more": func() (api.Nat, api.Errno) { return bound.Lower(p, 1, 2, nat(194)) }, // 2 + 8 + 5
		"46 Lower of 3": func() (api.Nat, api.Errno) { return bound.Lower(p, 1, 3, nat(193)) }, // 1 + 8 + 37
	} {
		got, err := one()
		digits := 0
		for digits < len(what) && what[digits] != ' ' {
			digits++
		}
		want, _ := strconv.ParseUint(what[:digits], 10, 64)
		if err != api.OK || !slices.Equal(got, api.Nat{want}) {
			t.Error(what, got, err)
		}
	}
	// 34 times 548 and 64 are 18696; times 549 it is 18730, beyond 18721.
	if !bound.Fits(p, 1, nat(548)) || bound.Fits(p, 1, nat(549)) || bound.Fits(p, 0, nil) {
		t.Error("Fits by hand")
	}
}

// The examples of the chapter.
func TestExamples(t *testing.T) {
	p := example()
	if a, err := bound.Fresh(p); err != api.OK || !slices.Equal(a, api.Nat{34}) {
		t.Error("Fresh", a, err)
	}
	if a, err := bound.Add(p, 1, api.Nat{3}, api.Nat{4}); err != api.OK || !slices.Equal(a, api.Nat{11}) {
		t.Error("Add", a, err)
	}
	if !bound.Fits(p, 1, api.Nat{34}) || bound.Fits(p, 1, api.Nat{1000}) {
		t.Error("Fits")
	}
}

func BenchmarkMul(b *testing.B) {
	for _, p := range []api.Params{example(), all()[len(all())-1]} {
		a := told(power(80, -1))
		b.Run(strconv.Itoa(p.N), func(b *testing.B) {
			for b.Loop() {
				bound.Mul(p, len(p.Q)-1, a, a)
			}
		})
	}
}
