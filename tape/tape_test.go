package tape_test

import (
	"math"
	"math/big"
	"slices"
	"strconv"
	"strings"
	"testing"

	"arras/api"
	"arras/tape"
)

const (
	most    = math.MaxUint64
	longest = 24
)

// mixer tells words that look like chance, the same ones each time.
type mixer struct{ state uint64 }

func (x *mixer) next() uint64 {
	x.state += 0x9e3779b97f4a7c15
	z := x.state
	z = (z ^ z>>30) * 0xbf58476d1ce4e5b9
	z = (z ^ z>>27) * 0x94d049bb133111eb
	return z ^ z>>31
}

func (x *mixer) words(count int) []uint64 {
	words := make([]uint64, count)
	for i := range words {
		words[i] = x.next()
	}
	return words
}

// An independent reckoning: a paper is draws and how many were taken; what is missing is told by false.

type paper struct {
	draws []uint64
	taken int
}

func (p *paper) take() (uint64, bool) {
	if p.taken == len(p.draws) {
		return 0, false
	}
	p.taken++
	return p.draws[p.taken-1], true
}

func (p *paper) left() int { return len(p.draws) - p.taken }

// below reckons by naturals of any size, in which 2^64 stands as it is.
func (p *paper) below(q uint64) (uint64, bool) {
	divisor := new(big.Int).SetUint64(q)
	end := endOf(q)
	for {
		draw, ok := p.take()
		if !ok {
			return 0, false
		}
		if number := new(big.Int).SetUint64(draw); number.Cmp(end) < 0 {
			return number.Mod(number, divisor).Uint64(), true
		}
	}
}

// endOf is the greatest multiple of q that is at most 2^64.
func endOf(q uint64) *big.Int {
	divisor := new(big.Int).SetUint64(q)
	end := new(big.Int).Lsh(big.NewInt(1), 64)
	return end.Mul(end.Div(end, divisor), divisor)
}

// binary is a draw's bits, the lowest first.
func binary(draw uint64) string {
	digits := []byte(strings.Repeat("0", 64) + strconv.FormatUint(draw, 2))
	slices.Reverse(digits)
	return string(digits[:64])
}

func (p *paper) ternary() (int, bool) {
	for {
		draw, ok := p.take()
		if !ok {
			return 0, false
		}
		switch binary(draw)[:2] {
		case "00":
			return 0, true
		case "10":
			return 1, true
		case "01":
			return -1, true
		}
	}
}

func (p *paper) fault(width int) (int, bool) {
	draw, ok := p.take()
	if !ok {
		return 0, false
	}
	digits := binary(draw)
	return strings.Count(digits[:width], "1") - strings.Count(digits[width:2*width], "1"), true
}

func (p *paper) uniform(n int, primes []uint64) (api.Poly, bool) {
	var element api.Poly
	for _, q := range primes {
		var list []uint64
		for range n {
			number, ok := p.below(q)
			if !ok {
				return api.Poly{}, false
			}
			list = append(list, number)
		}
		element.R = append(element.R, list)
	}
	return element, true
}

func (p *paper) numbers(n int, draw func() (int, bool)) ([]int64, bool) {
	var list []int64
	for range n {
		number, ok := draw()
		if !ok {
			return nil, false
		}
		list = append(list, int64(number))
	}
	return list, true
}

func errnoOf(ok bool) api.Errno {
	if ok {
		return api.OK
	}
	return api.ErrTape
}

// answer is what any of the calls answers.
type answer struct {
	below   uint64
	number  int
	element api.Poly
	list    []int64
	err     api.Errno
}

func (a answer) is(b answer) bool {
	return a.below == b.below && a.number == b.number && a.err == b.err && slices.Equal(a.list, b.list) && slices.EqualFunc(a.element.R, b.element.R, slices.Equal[[]uint64])
}

// A call is one of the tape's with its arguments, and what it should be by the paper.
type call struct {
	name  string
	do    func(t *tape.Tape) answer
	model func(p *paper) answer
}

func belowCall(q uint64) call {
	return call{"Below " + strconv.FormatUint(q, 10), func(t *tape.Tape) answer {
		number, err := t.Below(q)
		return answer{below: number, err: err}
	}, func(p *paper) answer {
		number, ok := p.below(q)
		return answer{below: number, err: errnoOf(ok)}
	}}
}

func ternaryCall() call {
	return call{"Ternary", func(t *tape.Tape) answer {
		number, err := t.Ternary()
		return answer{number: number, err: err}
	}, func(p *paper) answer {
		number, ok := p.ternary()
		return answer{number: number, err: errnoOf(ok)}
	}}
}

func errorCall(width int) call {
	return call{"Error " + strconv.Itoa(width), func(t *tape.Tape) answer {
		number, err := t.Error(width)
		return answer{number: number, err: err}
	}, func(p *paper) answer {
		number, ok := p.fault(width)
		return answer{number: number, err: errnoOf(ok)}
	}}
}

func uniformCall(n int, primes []uint64) call {
	return call{"Uniform " + strconv.Itoa(n) + " of " + strconv.Itoa(len(primes)), func(t *tape.Tape) answer {
		element, err := t.Uniform(n, primes)
		return answer{element: element, err: err}
	}, func(p *paper) answer {
		element, ok := p.uniform(n, primes)
		return answer{element: element, err: errnoOf(ok)}
	}}
}

func ternariesCall(n int) call {
	return call{"Ternaries " + strconv.Itoa(n), func(t *tape.Tape) answer {
		list, err := t.Ternaries(n)
		return answer{list: list, err: err}
	}, func(p *paper) answer {
		list, ok := p.numbers(n, p.ternary)
		return answer{list: list, err: errnoOf(ok)}
	}}
}

func errorsCall(n, width int) call {
	return call{"Errors " + strconv.Itoa(n) + " of width " + strconv.Itoa(width), func(t *tape.Tape) answer {
		list, err := t.Errors(n, width)
		return answer{list: list, err: err}
	}, func(p *paper) answer {
		list, ok := p.numbers(n, func() (int, bool) { return p.fault(width) })
		return answer{list: list, err: errnoOf(ok)}
	}}
}

// agree makes calls of one tape, one behind the other, and holds each against the paper.
func agree(t *testing.T, draws []uint64, calls ...call) {
	t.Helper()
	x, p := tape.New(draws), &paper{draws: draws}
	if x.Left() != len(draws) {
		t.Error("new", x.Left(), len(draws))
	}
	for place, c := range calls {
		got, want := c.do(x), c.model(p)
		if !got.is(want) || x.Left() != p.left() {
			t.Errorf("%s, call %d of a tape of %d: %v, left %d, not %v, left %d", c.name, place, len(draws), got, x.Left(), want, p.left())
			return
		}
	}
}

func TestExamples(t *testing.T) {
	x := tape.New([]uint64{3, 7, 2})
	if number, err := x.Ternary(); number != -1 || err != api.OK || x.Left() != 0 {
		t.Error(number, err, x.Left())
	}
	if number, err := tape.New([]uint64{5}).Error(2); number != 0 || err != api.OK {
		t.Error(number, err)
	}
	if number, err := tape.New([]uint64{7}).Below(4); number != 3 || err != api.OK {
		t.Error(number, err)
	}
}

func TestLeft(t *testing.T) {
	for _, draws := range [][]uint64{nil, {}, {3}, {0, 0}, slices.Repeat([]uint64{most}, 1000)} {
		x := tape.New(draws)
		for range 3 {
			if x.Left() != len(draws) {
				t.Error(x.Left(), len(draws))
			}
		}
	}
	x := tape.New([]uint64{0, 3, 3, 1, 5})
	for _, left := range []int{4, 1, 0, 0, 0} {
		if x.Ternary(); x.Left() != left {
			t.Error(x.Left(), left)
		}
	}
}

// bounds are 1, powers of two, numbers about them, numbers that divide 2^64 - 1, primes, and some by chance.
func bounds() []uint64 {
	all := []uint64{3, 5, 10, 17, 97, 193, 641, 65537, 6700417, 1000000007, 1<<61 - 1, 1<<63 + 2, 1<<63 + 3, 3 << 62, most / 3, most/3 + 1, most/2 + 2, 18446744069414584321, most - 1, most}
	for shift := range 64 {
		power := uint64(1) << shift
		all = append(all, power, power+1)
		if power > 1 {
			all = append(all, power-1)
		}
	}
	x := &mixer{state: 1}
	for shift := range 64 {
		all = append(all, x.next()>>shift|1)
	}
	return all
}

func TestBelow(t *testing.T) {
	x := &mixer{state: 2}
	for _, q := range bounds() {
		draws := []uint64{0, 1, 2, q - 1, q, q + 1, 1 << 63, 1<<63 - 1, most, most - 1, most - q, most - q + 1}
		draws = append(draws, x.words(20)...)
		agree(t, draws, slices.Repeat([]call{belowCall(q)}, len(draws)+2)...)
		for _, draw := range draws {
			agree(t, []uint64{draw, 0}, belowCall(q), belowCall(q), belowCall(q))
		}
	}
}

// The greatest multiple of q is the first draw that is passed by; the one below it makes q - 1.
func TestBelowAtTheGreatestMultiple(t *testing.T) {
	for _, q := range bounds() {
		end := endOf(q)
		last := new(big.Int).Sub(end, big.NewInt(1)).Uint64()
		x := tape.New([]uint64{last, 0})
		if number, err := x.Below(q); number != q-1 || err != api.OK || x.Left() != 1 {
			t.Error("just below", q, number, err, x.Left())
		}
		if !end.IsUint64() {
			if q&(q-1) != 0 {
				t.Error("no power of two divides 2^64:", q)
			}
			continue
		}
		x = tape.New([]uint64{end.Uint64(), most, end.Uint64(), 1, 0})
		if number, err := x.Below(q); number != 1%q || err != api.OK || x.Left() != 1 {
			t.Error("at", q, number, err, x.Left())
		}
		x = tape.New([]uint64{end.Uint64()})
		if number, err := x.Below(q); number != 0 || err != api.ErrTape || x.Left() != 0 {
			t.Error("at the tape's end", q, number, err, x.Left())
		}
	}
}

func TestBelowByHand(t *testing.T) {
	for _, one := range []struct {
		q     uint64
		draws []uint64
		want  uint64
		left  int
	}{
		{1, []uint64{most, 5}, 0, 1},
		{2, []uint64{most, 5}, 1, 1},
		{10, []uint64{most, most - 4, most - 5, most - 6, 9}, 9, 1},
		{3, []uint64{most, most - 1, 1}, 2, 1},
		{1 << 63, []uint64{most, 0}, 1<<63 - 1, 1},
		{1<<63 + 1, []uint64{1<<63 + 1, most, 1 << 63, 0}, 1 << 63, 1},
		{1<<63 + 2, []uint64{1<<63 + 2, 1<<63 + 1, 0}, 1<<63 + 1, 1},
		{most, []uint64{most, most - 1, 0}, most - 1, 1},
		{most - 1, []uint64{most, most - 1, most - 2, 0}, most - 2, 1},
	} {
		x := tape.New(one.draws)
		if number, err := x.Below(one.q); number != one.want || err != api.OK || x.Left() != one.left {
			t.Error(one.q, one.draws, number, err, x.Left())
		}
	}
}

func TestTernary(t *testing.T) {
	for _, high := range []uint64{0, 4, 1 << 63, most &^ 3} {
		for low, want := range []int{0, 1, -1} {
			for passed := range 5 {
				draws := append(slices.Repeat([]uint64{high | 3}, passed), high|uint64(low), 0)
				x := tape.New(draws)
				if number, err := x.Ternary(); number != want || err != api.OK || x.Left() != 1 {
					t.Error(draws, number, err, x.Left())
				}
			}
		}
	}
	draws := (&mixer{state: 3}).words(1000)
	agree(t, draws, slices.Repeat([]call{ternaryCall()}, 1002)...)
	agree(t, slices.Repeat([]uint64{3, most, 7}, 1000), ternaryCall(), ternaryCall())
}

func TestError(t *testing.T) {
	x := &mixer{state: 4}
	for width := 1; width <= api.MaxError; width++ {
		ones := uint64(1)<<width - 1
		draws := []uint64{0, most, ones, ones << width, ones<<width | ones, ones << (2 * width), ones | ones<<(2*width), most &^ ones, most << (2 * width), 1, 1 << (width - 1), 1 << width, 1 << (2*width - 1), 1 << (2 * width)}
		draws = append(draws, x.words(100)...)
		agree(t, draws, slices.Repeat([]call{errorCall(width)}, len(draws)+2)...)
		greatest := tape.New([]uint64{most &^ (ones << width), most &^ ones})
		if number, err := greatest.Error(width); number != width || err != api.OK {
			t.Error(width, number, err)
		}
		if number, err := greatest.Error(width); number != -width || err != api.OK {
			t.Error(width, number, err)
		}
	}
}

func TestErrorOfWidthOne(t *testing.T) {
	for _, high := range []uint64{0, 4, most &^ 3} {
		for low, want := range []int{0, 1, -1, 0} {
			x := tape.New([]uint64{high | uint64(low), 0})
			if number, err := x.Error(1); number != want || err != api.OK || x.Left() != 1 {
				t.Error(high, low, number, err, x.Left())
			}
		}
	}
}

// Bit by bit: each of the lowest width bits counts 1, each of the next ones -1, and none above them counts.
func TestErrorBitByBit(t *testing.T) {
	for width := 1; width <= api.MaxError; width++ {
		for place := range 64 {
			want := 0
			if place < width {
				want = 1
			} else if place < 2*width {
				want = -1
			}
			if number, err := tape.New([]uint64{1 << place}).Error(width); number != want || err != api.OK {
				t.Error(width, place, number, err)
			}
		}
	}
}

// rowsOf are primes whose draws are passed by now and then, often, and never.
func rowsOf(count int) []uint64 {
	kinds := []uint64{17, 1<<63 + 1, 1, most/3*2 + 3, 1 << 40, most, 97, 1<<61 - 1}
	primes := make([]uint64, count)
	for i := range primes {
		primes[i] = kinds[i%len(kinds)]
	}
	return primes
}

func TestUniform(t *testing.T) {
	x := &mixer{state: 5}
	for _, n := range []int{1, 2, 3, 16, 255, api.MaxN} {
		for _, count := range []int{1, 2, 3, 23, longest} {
			if n*count > 30000 && n != api.MaxN {
				continue
			}
			agree(t, x.words(3*n*count+100), uniformCall(n, rowsOf(count)), errorCall(3), ternaryCall())
		}
	}
}

func TestUniformByHand(t *testing.T) {
	// 2^64 - 1 is a multiple of 5, so it is passed by.
	x := tape.New([]uint64{6, most, 7, 13, 21, 100})
	element, err := x.Uniform(2, []uint64{5, 10})
	want := [][]uint64{{1, 2}, {3, 1}}
	if err != api.OK || !slices.EqualFunc(element.R, want, slices.Equal[[]uint64]) || x.Left() != 1 {
		t.Error(element, err, x.Left())
	}
}

func TestLists(t *testing.T) {
	x := &mixer{state: 6}
	for _, n := range []int{1, 2, 3, 64, 1000, api.MaxN - 1, api.MaxN} {
		agree(t, x.words(3*n+10), ternariesCall(n), errorCall(16), belowCall(1000))
		for _, width := range []int{1, 2, 7, api.MaxError - 1, api.MaxError} {
			agree(t, x.words(n+10), errorsCall(n, width), ternaryCall(), belowCall(1<<63+1))
		}
	}
}

func TestListsByHand(t *testing.T) {
	x := tape.New([]uint64{2, 3, 0, 7, 7, 5, 1, 1})
	if list, err := x.Ternaries(4); err != api.OK || !slices.Equal(list, []int64{-1, 0, 1, 1}) || x.Left() != 1 {
		t.Error(list, err, x.Left())
	}
	x = tape.New([]uint64{3, 12, 7, 16, 9, 2})
	if list, err := x.Errors(5, 2); err != api.OK || !slices.Equal(list, []int64{2, -2, 1, 0, 0}) || x.Left() != 1 {
		t.Error(list, err, x.Left())
	}
}

// Many calls of all kinds, one behind the other: each takes up where the one ahead of it ended.
func TestCallsOneBehindTheOther(t *testing.T) {
	for seed := range uint64(300) {
		x := &mixer{state: seed}
		agree(t, x.words(int(x.next()%200)), x.calls(30)...)
	}
}

func (x *mixer) calls(count int) []call {
	var calls []call
	for range count {
		n, width := int(x.next()%9)+1, int(x.next()%api.MaxError)+1
		switch x.next() % 6 {
		case 0:
			calls = append(calls, belowCall(x.next()>>(x.next()%64)|1))
		case 1:
			calls = append(calls, ternaryCall())
		case 2:
			calls = append(calls, errorCall(width))
		case 3:
			calls = append(calls, uniformCall(n, rowsOf(int(x.next()%4)+1)))
		case 4:
			calls = append(calls, ternariesCall(n))
		default:
			calls = append(calls, errorsCall(n, width))
		}
	}
	return calls
}

// What is drawn behind other calls is what a new tape of the draws that are left tells, whatever was ahead.
func TestWhatIsBehindHangsOnWhatIsLeft(t *testing.T) {
	for seed := range uint64(200) {
		x := &mixer{state: seed + 1000}
		draws := x.words(120)
		old := tape.New(draws)
		for _, c := range x.calls(int(seed % 12)) {
			c.do(old)
		}
		fresh := tape.New(draws[len(draws)-old.Left():])
		for _, c := range x.calls(20) {
			if got, want := c.do(old), c.do(fresh); !got.is(want) || old.Left() != fresh.Left() {
				t.Fatal(c.name, got, want)
			}
		}
	}
}

func TestWhatIsDrawnIsWithinItsBounds(t *testing.T) {
	x := tape.New((&mixer{state: 7}).words(400000))
	primes := rowsOf(longest)
	element, err := x.Uniform(api.MaxN, primes)
	if err != api.OK || len(element.R) != longest {
		t.Fatal(err, len(element.R))
	}
	for i, list := range element.R {
		if len(list) != api.MaxN || slices.Max(list) >= primes[i] {
			t.Error(primes[i], len(list))
		}
	}
	list, err := x.Ternaries(api.MaxN)
	if err != api.OK || len(list) != api.MaxN || slices.Min(list) != -1 || slices.Max(list) != 1 {
		t.Error(err, len(list))
	}
	for width := 1; width <= api.MaxError; width++ {
		list, err := x.Errors(api.MaxN, width)
		if err != api.OK || len(list) != api.MaxN || slices.Min(list) < -int64(width) || slices.Max(list) > int64(width) {
			t.Error(width, err, len(list))
		}
	}
}
