package tape_test

import (
	"math"
	"slices"
	"testing"

	"arras/api"
	"arras/tape"
)

// goodCalls are one of each kind, and lists of the least and of the greatest length.
func goodCalls() []call {
	return []call{
		belowCall(1), belowCall(10), belowCall(1<<63 + 1), belowCall(most), ternaryCall(), errorCall(1), errorCall(api.MaxError),
		uniformCall(1, []uint64{1}), uniformCall(3, []uint64{17, 1<<63 + 1}), uniformCall(1, rowsOf(longest)),
		ternariesCall(1), ternariesCall(5), errorsCall(1, 1), errorsCall(5, 4),
	}
}

func wrongLengths() []int {
	return []int{0, -1, api.MaxN + 1, 2 * api.MaxN, math.MaxInt, math.MinInt}
}

func wrongWidths() []int {
	return []int{0, -1, api.MaxError + 1, 32, 63, 64, math.MaxInt, math.MinInt}
}

// wrongCalls are refused, each for its arguments alone.
func wrongCalls() []call {
	calls := []call{belowCall(0), uniformCall(1, nil), uniformCall(1, []uint64{}), uniformCall(api.MaxN, nil), uniformCall(1, rowsOf(longest+1)), uniformCall(1, rowsOf(1000)), uniformCall(0, nil), uniformCall(0, []uint64{0})}
	for _, n := range wrongLengths() {
		calls = append(calls, uniformCall(n, []uint64{17}), uniformCall(n, rowsOf(longest)), ternariesCall(n), errorsCall(n, 1), errorsCall(n, api.MaxError), errorsCall(n, 0))
	}
	for _, width := range wrongWidths() {
		calls = append(calls, errorCall(width), errorsCall(1, width), errorsCall(api.MaxN, width))
	}
	for _, count := range []int{1, 2, longest} {
		for place := range count {
			primes := rowsOf(count)
			primes[place] = 0
			calls = append(calls, uniformCall(2, primes))
		}
	}
	return calls
}

func refused(t *testing.T, kind string, x *tape.Tape, c call) {
	t.Helper()
	left := x.Left()
	if got := c.do(x); !got.is(answer{err: api.ErrArg}) || x.Left() != left {
		t.Error(kind, c.name, got, left, x.Left())
	}
}

func TestWrongArgumentsTakeNoDraw(t *testing.T) {
	draws := (&mixer{state: 8}).words(50)
	for _, c := range wrongCalls() {
		x := tape.New(draws)
		for range 3 {
			refused(t, "full", x, c)
		}
		if x.Left() != len(draws) {
			t.Error(c.name, x.Left())
		}
		for _, good := range goodCalls() {
			p := &paper{draws: draws}
			if got, want := good.do(x), good.model(p); !got.is(want) || x.Left() != p.left() {
				t.Error("behind", c.name, good.name, got, want)
			}
			x = tape.New(draws)
		}
	}
}

// What may not be is told ahead of draws that are missing.
func TestWrongArgumentsOfATapeThatHasRunOut(t *testing.T) {
	empty := tape.New(nil)
	taken := tape.New([]uint64{4})
	taken.Ternary()
	out := tape.New([]uint64{3, 3})
	out.Ternary()
	for _, c := range wrongCalls() {
		refused(t, "empty", empty, c)
		refused(t, "all taken", taken, c)
		refused(t, "run out", out, c)
	}
	for _, x := range []*tape.Tape{empty, taken, out} {
		if number, err := x.Below(1); number != 0 || err != api.ErrTape {
			t.Error(number, err)
		}
	}
}

func TestNilTape(t *testing.T) {
	var none *tape.Tape
	if none.Left() != 0 {
		t.Error(none.Left())
	}
	for _, c := range slices.Concat(goodCalls(), wrongCalls()) {
		refused(t, "nil", none, c)
	}
}

// A tape that New didn't make has no draws.
func TestZeroTape(t *testing.T) {
	for _, c := range goodCalls() {
		x := &tape.Tape{}
		if got := c.do(x); !got.is(answer{err: api.ErrTape}) || x.Left() != 0 {
			t.Error(c.name, got, x.Left())
		}
	}
}

// hasRunOut holds a tape against the word: all later calls but the wrong ones answer ErrTape.
func hasRunOut(t *testing.T, kind string, x *tape.Tape) {
	t.Helper()
	for range 2 {
		for _, c := range goodCalls() {
			if got := c.do(x); !got.is(answer{err: api.ErrTape}) || x.Left() != 0 {
				t.Error(kind, "later", c.name, got, x.Left())
			}
		}
		for _, c := range wrongCalls() {
			refused(t, kind, x, c)
		}
	}
}

// Each call runs out with any number of draws that is too small, and does with just enough of them.
func TestATapeThatRunsOut(t *testing.T) {
	draws := (&mixer{state: 9}).words(200)
	for _, c := range goodCalls() {
		p := &paper{draws: draws}
		want := c.model(p)
		for count := range p.taken {
			x := tape.New(draws[:count])
			if got := c.do(x); !got.is(answer{err: api.ErrTape}) || x.Left() != 0 {
				t.Error(c.name, count, got, x.Left())
			}
			hasRunOut(t, c.name, x)
		}
		x := tape.New(draws[:p.taken])
		if got := c.do(x); !got.is(want) || got.err != api.OK || x.Left() != 0 {
			t.Error(c.name, got, want, x.Left())
		}
		hasRunOut(t, c.name, x)
	}
}

// The last draws are passed by: they are taken, and the call misses one.
func TestATapeThatRunsOutOnDrawsThatArePassedBy(t *testing.T) {
	for _, one := range []struct {
		call  call
		draws []uint64
	}{
		{belowCall(10), []uint64{most}},
		{belowCall(10), []uint64{most, most - 1, most - 5}},
		{belowCall(most), []uint64{most, most}},
		{ternaryCall(), []uint64{3, 7, most}},
		{ternariesCall(2), []uint64{0, 3}},
		{ternariesCall(3), []uint64{3, 1, 2, 3, 3}},
		{uniformCall(2, []uint64{10}), []uint64{5, most}},
		{uniformCall(1, []uint64{10, most}), []uint64{5, most}},
		{uniformCall(2, []uint64{1, 1}), []uint64{0, 0, 0}},
	} {
		x := tape.New(one.draws)
		if got := one.call.do(x); !got.is(answer{err: api.ErrTape}) || x.Left() != 0 {
			t.Error(one.call.name, one.draws, got, x.Left())
		}
		hasRunOut(t, one.call.name, x)
	}
}

// Long lists, one draw short and with just enough.
func TestLongListsAtTheEnd(t *testing.T) {
	primes := slices.Repeat([]uint64{1 << 20}, longest)
	enough := make([]uint64, api.MaxN*longest)
	for _, one := range []struct {
		call  call
		needs int
	}{
		{uniformCall(api.MaxN, primes), api.MaxN * longest},
		{uniformCall(api.MaxN, primes[:1]), api.MaxN},
		{ternariesCall(api.MaxN), api.MaxN},
		{errorsCall(api.MaxN, api.MaxError), api.MaxN},
	} {
		x := tape.New(enough[:one.needs])
		if got := one.call.do(x); got.err != api.OK || x.Left() != 0 {
			t.Error(one.call.name, got.err, x.Left())
		}
		x = tape.New(enough[:one.needs-1])
		if got := one.call.do(x); !got.is(answer{err: api.ErrTape}) || x.Left() != 0 {
			t.Error(one.call.name, got.err, x.Left())
		}
	}
}

// Primes need not be unlike, nor be primes: only 0 is refused.
func TestUniformTakesAllBoundsButNone(t *testing.T) {
	draws := (&mixer{state: 10}).words(300)
	for _, q := range bounds() {
		agree(t, draws, uniformCall(2, []uint64{q}), uniformCall(2, []uint64{q, q}), uniformCall(1, slices.Repeat([]uint64{q}, longest)))
	}
}
