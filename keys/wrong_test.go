package keys_test

import (
	"math"
	"slices"
	"strconv"
	"testing"

	"arras/api"
	"arras/keys"
	"arras/tape"
)

// answer is all that a call told, as lists: those beside an error have to be none.
type answer struct {
	lists [][]uint64
	steps []int
	err   api.Errno
}

func ofPolys(err api.Errno, rows ...[]api.Poly) answer {
	told := answer{err: err}
	for _, a := range slices.Concat(rows...) {
		told.lists = append(told.lists, a.R...)
	}
	return told
}

// call is one that draws. Secret has no secret handed in, and Turn alone one step.
type call struct {
	name       string
	hasSecret  bool
	hasSteps   bool
	pairs      func(p api.Params, steps []int) int // how many are drawn
	do         func(p api.Params, s []int64, steps []int, t *tape.Tape) answer
	wrongSteps [][]int
}

func calls() []call {
	perPrime := func(p api.Params, _ []int) int { return len(p.Q) }
	return []call{
		{name: "Secret", do: func(p api.Params, _ []int64, _ []int, t *tape.Tape) answer {
			s, err := keys.Secret(p, t)
			told := answer{err: err}
			if len(s) > 0 {
				told.lists = append(told.lists, make([]uint64, len(s)))
			}
			return told
		}},
		{name: "Public", hasSecret: true, pairs: func(api.Params, []int) int { return 1 }, do: func(p api.Params, s []int64, _ []int, t *tape.Tape) answer {
			k, err := keys.Public(p, s, t)
			return ofPolys(err, []api.Poly{k.B, k.A})
		}},
		{name: "Relin", hasSecret: true, pairs: perPrime, do: func(p api.Params, s []int64, _ []int, t *tape.Tape) answer {
			k, err := keys.Relin(p, s, t)
			return ofPolys(err, k.B, k.A)
		}},
		{name: "Turn", hasSecret: true, hasSteps: true, pairs: perPrime, do: func(p api.Params, s []int64, steps []int, t *tape.Tape) answer {
			k, err := keys.Turn(p, s, steps[0], t)
			return ofPolys(err, k.B, k.A)
		}, wrongSteps: [][]int{{0}, {4}, {5}, {8}, {-1}, {-3}, {math.MinInt}, {math.MaxInt}, {math.MinInt + 1}, {1 << 32}, {1<<32 + 1}, {-1 << 32}, {1<<63 - 8}}},
		{name: "All", hasSecret: true, hasSteps: true, pairs: func(p api.Params, steps []int) int { return len(p.Q) * (1 + len(steps)) }, do: func(p api.Params, s []int64, steps []int, t *tape.Tape) answer {
			k, err := keys.All(p, s, steps, t)
			told := ofPolys(err, k.Relin.B, k.Relin.A)
			for _, turn := range k.Turns {
				told.steps = append(told.steps, turn.Step)
				told.lists = append(told.lists, ofPolys(err, turn.Key.B, turn.Key.A).lists...)
			}
			return told
		}, wrongSteps: [][]int{{0}, {4}, {-1}, {math.MinInt}, {math.MaxInt}, {0, 1}, {-1, 1}, {1, 1}, {1, 2, 2}, {3, 3}, {1, 1, 2}, {2, 1}, {3, 2, 1}, {1, 3, 2}, {1, 2, 3, 4}, {1, 4}, {3, 4}, {1, 2, 3, 1}, {math.MinInt, 1}, {1, math.MaxInt}, {1, math.MinInt}, {1, 2, 0}, {2, -1, 3}, {1<<32 + 1}, {0, 0}, make([]int, 1000)}},
	}
}

func refused(t *testing.T, what string, got answer, want api.Errno) {
	t.Helper()
	if got.err != want || len(got.lists) != 0 || len(got.steps) != 0 {
		t.Error(what, got.err, want, len(got.lists), got.steps)
	}
}

// wrongParams have one condition of the parameters broken at a time.
func wrongParams() []api.Params {
	return []api.Params{
		{},
		{N: 4, T: 17, Q: []uint64{97, 193}, Width: 2},
		{N: 0, T: 17, Q: []uint64{97, 193}, Width: 2},
		{N: -8, T: 17, Q: []uint64{97, 193}, Width: 2},
		{N: 12, T: 97, Q: []uint64{193}, Width: 2},
		{N: 512, T: 12289, Q: []uint64{13313}, Width: 2},
		{N: 8192, T: 65537, Q: []uint64{114689}, Width: 2},
		{N: math.MinInt, T: 17, Q: []uint64{97, 193}, Width: 2},
		{N: math.MaxInt, T: 17, Q: []uint64{97, 193}, Width: 2},
		{N: 8, T: 0, Q: []uint64{97, 193}, Width: 2},
		{N: 8, T: 33, Q: []uint64{97, 193}, Width: 2},
		{N: 8, T: 41, Q: []uint64{97, 193}, Width: 2},
		{N: 8, T: 193, Q: []uint64{97, 193}, Width: 2},
		{N: 8, T: primesBelow(8, api.MaxT+1000, 1)[0], Q: []uint64{97, 193}, Width: 2},
		{N: 8, T: 17, Width: 2},
		{N: 8, T: 17, Q: []uint64{}, Width: 2},
		{N: 8, T: 17, Q: []uint64{0}, Width: 2},
		{N: 8, T: 17, Q: []uint64{97, 97}, Width: 2},
		{N: 8, T: 17, Q: []uint64{97, 161}, Width: 2},
		{N: 8, T: 17, Q: []uint64{97, 101}, Width: 2},
		{N: 8, T: 17, Q: []uint64{primesBelow(8, primeEnd+1000, 1)[0]}, Width: 2},
		{N: 8, T: 17, Q: leastPrimes(8, api.MaxPrimes+2)[1:], Width: 2},
		{N: 8, T: 17, Q: []uint64{97, 193}},
		{N: 8, T: 17, Q: []uint64{97, 193}, Width: -1},
		{N: 8, T: 17, Q: []uint64{97, 193}, Width: api.MaxError + 1},
		{N: 1024, T: 12289, Q: primesBelow(1024, 1<<28, 1), Width: 2},
		{N: api.MaxN, T: 40961, Q: primesBelow(api.MaxN, 1<<37, 3), Width: 2},
	}
}

// noSecrets are too short, too long, or have a number beside 0, 1 and -1.
func noSecrets(n int) [][]int64 {
	list := [][]int64{nil, {}, {1}, make([]int64, n-1), make([]int64, n+1), make([]int64, 2*n), make([]int64, n/2)}
	for _, at := range []int{0, 1, n / 2, n - 1} {
		for _, v := range []int64{2, -2, 3, math.MaxInt64, math.MinInt64, 1 << 32, 1<<32 + 1, -1 << 32, 96, 97} {
			s := slices.Repeat([]int64{1, 0, -1, 0}, n/4)
			s[at] = v
			list = append(list, s)
		}
	}
	return list
}

// needed is how many draws a call takes, if each is taken.
func (c call) needed(p api.Params, steps []int) int {
	if c.pairs == nil {
		return p.N
	}
	return c.pairs(p, steps) * p.N * (len(p.Q) + 1)
}

// goodSteps are such as Turn and All take.
func goodSteps() []int { return []int{2, 3} }

func goodSecret() []int64 { return []int64{0, 1, -1, 0, 1, 0, 0, -1} }

func TestWrongParameters(t *testing.T) {
	for _, c := range calls() {
		for _, p := range wrongParams() {
			draws := tape.New(make([]uint64, 100))
			refused(t, c.name+" "+name(p), c.do(p, goodSecret(), goodSteps(), draws), api.ErrParam)
			if draws.Left() != 100 {
				t.Error("draws were taken", c.name, name(p))
			}
			// As many numbers as these parameters ask for make no difference.
			if p.N > 0 && p.N <= 2*api.MaxN {
				refused(t, c.name+" "+name(p), c.do(p, make([]int64, p.N), goodSteps(), draws), api.ErrParam)
			}
		}
	}
}

func TestNoSecrets(t *testing.T) {
	for _, p := range []api.Params{example(), paramsOf(8, 97, 1, 17), paramsOf(64, 257, 2, leastPrimes(64, 4)[1:]...), great()[2]} {
		for _, c := range calls() {
			for i, s := range noSecrets(p.N) {
				draws := tape.New(make([]uint64, c.needed(p, goodSteps())))
				left := draws.Left()
				if !c.hasSecret {
					continue
				}
				refused(t, c.name+" "+name(p)+" none "+strconv.Itoa(i), c.do(p, s, goodSteps(), draws), api.ErrForm)
				if draws.Left() != left {
					t.Error("draws were taken", c.name, name(p), i)
				}
			}
		}
	}
}

func TestWrongSteps(t *testing.T) {
	p := example()
	for _, c := range calls() {
		for _, steps := range c.wrongSteps {
			draws := tape.New(make([]uint64, 1000))
			refused(t, c.name+" "+strconv.Itoa(len(steps)), c.do(p, goodSecret(), steps, draws), api.ErrRange)
			if draws.Left() != 1000 {
				t.Error("draws were taken", c.name, steps)
			}
		}
	}
}

// The bounds of steps are those of the parameters' slots.
func TestStepsAtTheirBounds(t *testing.T) {
	for n := 8; n <= api.MaxN; n *= 2 {
		if n == 512 {
			continue
		}
		p := paramsOf(n, leastPrimes(n, 1)[0], 2, leastPrimes(n, 2)[1:]...)
		s := make([]int64, n)
		for step, want := range map[int]api.Errno{-1: api.ErrRange, 0: api.ErrRange, 1: api.OK, 2: api.OK, n/2 - 1: api.OK, n / 2: api.ErrRange, n/2 + 1: api.ErrRange, n - 1: api.ErrRange, n: api.ErrRange, 2*n + 1: api.ErrRange} {
			if k, err := keys.Turn(p, s, step, tape.New(make([]uint64, 2*n))); err != want || keys.Right(p, k) != (want == api.OK) {
				t.Error(n, step, err)
			}
			if k, err := keys.All(p, s, []int{step}, tape.New(make([]uint64, 4*n))); err != want || len(k.Turns) != len(k.Relin.A) {
				t.Error(n, step, err)
			}
		}
	}
}

func TestNilTape(t *testing.T) {
	for _, p := range []api.Params{example(), great()[2]} {
		for _, c := range calls() {
			refused(t, c.name, c.do(p, slices.Repeat([]int64{1, -1}, p.N/2), goodSteps(), nil), api.ErrArg)
		}
	}
	if k, err := keys.All(example(), goodSecret(), nil, nil); err != api.ErrArg || len(k.Relin.A) != 0 || len(k.Turns) != 0 {
		t.Error(k, err)
	}
}

// Each number of draws short of what is needed is too few: all of them are taken, and the tape tells no more.
func TestTapesThatRunOut(t *testing.T) {
	for _, p := range []api.Params{example(), paramsOf(8, 97, 1, 17), paramsOf(16, 97, 2, leastPrimes(16, 4)[1:]...)} {
		s := slices.Repeat([]int64{0, 1, -1, 1}, p.N/4)
		for _, c := range calls() {
			needed := c.needed(p, goodSteps())
			for count := range needed {
				draws := tape.New(make([]uint64, count))
				refused(t, c.name+" "+name(p)+" of "+strconv.Itoa(count), c.do(p, s, goodSteps(), draws), api.ErrTape)
				if draws.Left() != 0 {
					t.Error("left", c.name, count, draws.Left())
				}
				if _, err := draws.Ternary(); err != api.ErrTape {
					t.Error("it tells more", c.name, count, err)
				}
				refused(t, c.name+" again", c.do(p, s, goodSteps(), draws), api.ErrTape)
			}
			for _, more := range []int{0, 1, 5} {
				draws := tape.New(make([]uint64, needed+more))
				if got := c.do(p, s, goodSteps(), draws); got.err != api.OK || len(got.lists) == 0 || draws.Left() != more {
					t.Error("enough", c.name, name(p), got.err, draws.Left())
				}
			}
		}
	}
}

// A draw that isn't taken is one more that is needed.
func TestDrawsThatArePassedBy(t *testing.T) {
	p := example()
	for _, c := range calls() {
		needed := c.needed(p, goodSteps())
		words := append([]uint64{most, most}, make([]uint64, needed)...)
		short := tape.New(words[:needed+1])
		refused(t, c.name, c.do(p, goodSecret(), goodSteps(), short), api.ErrTape)
		enough := tape.New(words)
		if got := c.do(p, goodSecret(), goodSteps(), enough); got.err != api.OK || enough.Left() != 0 {
			t.Error(c.name, got.err, enough.Left())
		}
	}
}

// A tape that New didn't make has no draws.
func TestTapeOfNothing(t *testing.T) {
	for _, c := range calls() {
		refused(t, c.name, c.do(example(), goodSecret(), goodSteps(), &tape.Tape{}), api.ErrTape)
		refused(t, c.name, c.do(example(), goodSecret(), goodSteps(), tape.New(nil)), api.ErrTape)
	}
}

// Of all wrong things together the chapter's first one is told.
func TestOrderOfErrors(t *testing.T) {
	for _, c := range calls() {
		for faults := range 16 {
			p, s, steps, draws, want := example(), goodSecret(), goodSteps(), tape.New(make([]uint64, 7)), api.ErrTape
			if faults&1 != 0 {
				draws, want = nil, api.ErrArg
			}
			if faults&2 != 0 && c.hasSteps {
				steps, want = []int{0}, api.ErrRange
			}
			if faults&4 != 0 && c.hasSecret {
				s, want = s[1:], api.ErrForm
			}
			if faults&8 != 0 {
				p.Width, want = 0, api.ErrParam
			}
			refused(t, c.name+" "+strconv.Itoa(faults), c.do(p, s, steps, draws), want)
			// Nor does enough on the tape change it.
			if draws != nil && want != api.ErrTape {
				refused(t, c.name+" "+strconv.Itoa(faults), c.do(p, s, steps, tape.New(make([]uint64, 1000))), want)
			}
		}
	}
}

// A call that is refused ahead of its draws changes no later one.
func TestRefusalsChangeNothing(t *testing.T) {
	p := example()
	words := plenty(p, len(p.Q))
	draws, want := tape.New(words), tape.New(words)
	for _, c := range calls() {
		c.do(api.Params{}, goodSecret(), goodSteps(), draws)
		if c.hasSecret {
			c.do(p, nil, goodSteps(), draws)
		}
		if c.hasSteps {
			c.do(p, goodSecret(), []int{0}, draws)
		}
	}
	k, err := keys.Relin(p, goodSecret(), draws)
	wanted, _ := switchOf(p, goodSecret(), squareOf(goodSecret()), want)
	if err != api.OK || !sameSwitch(k, wanted) {
		t.Error(err)
	}
}

// some is a switch that is right, of whatever numbers.
func some(p api.Params) api.Switch {
	x := &mixer{state: 3}
	var k api.Switch
	for range p.Q {
		for _, row := range []*[]api.Poly{&k.B, &k.A} {
			var a api.Poly
			for _, q := range p.Q {
				list := make([]uint64, p.N)
				for i := range list {
					list[i] = x.next() % q
				}
				list[0], list[1] = 0, q-1
				a.R = append(a.R, list)
			}
			*row = append(*row, a)
		}
	}
	return k
}

func rights() []api.Params {
	return []api.Params{example(), paramsOf(8, 97, 1, 17), paramsOf(16, 97, 16, leastPrimes(16, 9)[1:]...), paramsOf(32, 193, 2, primesBelow(32, primeEnd, 3)...), great()[4]}
}

func TestRight(t *testing.T) {
	for _, p := range append(small(), great()...) {
		if !keys.Right(p, some(p)) {
			t.Error(name(p))
		}
	}
}

// isWrong tries a switch that one thing was changed of.
func isWrong(t *testing.T, what string, p api.Params, change func(k *api.Switch)) {
	t.Helper()
	k := some(p)
	change(&k)
	if keys.Right(p, k) {
		t.Error(what, name(p))
	}
}

func TestNotRightByItsPairs(t *testing.T) {
	for _, p := range rights() {
		last := len(p.Q) - 1
		for what, change := range map[string]func(k *api.Switch){
			"none":              func(k *api.Switch) { *k = api.Switch{} },
			"no B":              func(k *api.Switch) { k.B = nil },
			"no A":              func(k *api.Switch) { k.A = nil },
			"a pair too few":    func(k *api.Switch) { k.B, k.A = k.B[:last], k.A[:last] },
			"a B too few":       func(k *api.Switch) { k.B = k.B[:last] },
			"an A too few":      func(k *api.Switch) { k.A = k.A[:last] },
			"a pair too many":   func(k *api.Switch) { k.B, k.A = append(k.B, k.B[0]), append(k.A, k.A[0]) },
			"a B too many":      func(k *api.Switch) { k.B = append(k.B, k.B[0]) },
			"an A too many":     func(k *api.Switch) { k.A = append(k.A, k.A[0]) },
			"another one moved": func(k *api.Switch) { k.B, k.A = k.B[:last], append(k.A, k.B[last]) },
			"the other moved":   func(k *api.Switch) { k.A, k.B = k.A[:last], append(k.B, k.A[last]) },
		} {
			isWrong(t, what, p, change)
		}
	}
}

// One element of one pair is none of the top level.
func TestNotRightByItsElements(t *testing.T) {
	for _, p := range rights() {
		top := len(p.Q) - 1
		for pair := range p.Q {
			for side := range 2 {
				at := func(k *api.Switch) *api.Poly { return &[][]api.Poly{k.B, k.A}[side][pair] }
				what := strconv.Itoa(side) + " of pair " + strconv.Itoa(pair)
				isWrong(t, "none, "+what, p, func(k *api.Switch) { *at(k) = api.Poly{} })
				isWrong(t, "lower, "+what, p, func(k *api.Switch) { at(k).R = at(k).R[:top] })
				isWrong(t, "the lowest, "+what, p, func(k *api.Switch) { at(k).R = at(k).R[:min(1, top)] })
				isWrong(t, "higher, "+what, p, func(k *api.Switch) { at(k).R = append(at(k).R, make([]uint64, p.N)) })
				for place := range p.Q {
					list := func(k *api.Switch) *[]uint64 { return &at(k).R[place] }
					what := what + " list " + strconv.Itoa(place)
					isWrong(t, "no list, "+what, p, func(k *api.Switch) { *list(k) = nil })
					isWrong(t, "short, "+what, p, func(k *api.Switch) { *list(k) = (*list(k))[1:] })
					isWrong(t, "long, "+what, p, func(k *api.Switch) { *list(k) = append(*list(k), 0) })
					for _, i := range []int{0, p.N / 2, p.N - 1} {
						for _, residue := range []uint64{p.Q[place], p.Q[place] + 1, 1 << 63, most} {
							if p.N <= 16 || pair == place {
								isWrong(t, "beyond, "+what, p, func(k *api.Switch) { (*list(k))[i] = residue })
							}
						}
					}
				}
			}
		}
	}
}

// A switch that is right for some parameters is right for none that may not be, nor for others.
func TestRightOfOtherParameters(t *testing.T) {
	for _, p := range wrongParams() {
		if p.N == 8 && len(p.Q) > 0 && !slices.Contains(p.Q, 0) && keys.Right(p, some(p)) {
			t.Error(name(p))
		}
		for _, k := range []api.Switch{{}, some(example()), {B: []api.Poly{}, A: []api.Poly{}}} {
			if keys.Right(p, k) {
				t.Error(name(p))
			}
		}
	}
	k := some(example())
	for _, p := range []api.Params{paramsOf(8, 17, 2, 97), paramsOf(8, 17, 2, 97, 193, 113), paramsOf(8, 17, 2, 193, 97), paramsOf(16, 97, 2, 193, 257)} {
		if keys.Right(p, k) {
			t.Error(name(p))
		}
	}
	// T and the width don't tell.
	for _, p := range []api.Params{paramsOf(8, 113, 2, 97, 193), paramsOf(8, 17, 16, 97, 193)} {
		if !keys.Right(p, k) {
			t.Error(name(p))
		}
	}
}
