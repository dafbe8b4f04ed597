package vector_test

import (
	"math"
	"slices"
	"testing"

	"arras/api"
	"arras/vector"
)

func list(numbers ...int) []int { return numbers }

func input(k int) api.Instr       { return api.Instr{Op: api.OpInput, K: k} }
func constant(k int) api.Instr    { return api.Instr{Op: api.OpConst, K: k} }
func add(a, b int) api.Instr      { return api.Instr{Op: api.OpAdd, A: a, B: b} }
func mul(a, b int) api.Instr      { return api.Instr{Op: api.OpMul, A: a, B: b} }
func addPlain(a, k int) api.Instr { return api.Instr{Op: api.OpAddP, A: a, K: k} }
func mulPlain(a, k int) api.Instr { return api.Instr{Op: api.OpMulP, A: a, K: k} }
func turn(a, k int) api.Instr     { return api.Instr{Op: api.OpTurn, A: a, K: k} }

// code numbers instructions, each its place.
func code(row ...api.Instr) []api.Instr {
	for i := range row {
		row[i].To = i
	}
	return row
}

func inputs(slots ...[]int) []api.Input {
	var all []api.Input
	for _, places := range slots {
		all = append(all, api.Input{Slots: places})
	}
	return all
}

// sum is the chapter's example: an input of slots 0 and 1, and it turned by 1, together.
func sum() api.Vectors {
	return api.Vectors{Slots: 4, Inputs: inputs(list(0, 1)), Code: code(input(0), turn(0, 1), add(0, 1)), Last: 2, Out: list(0)}
}

// made is a program, and its values, worked out by hand.
type made struct {
	v      api.Vectors
	inputs [][]int
	t      uint64
	values [][]int
}

func byHand() []made {
	const most = math.MaxInt
	plains := [][]int{list(1, -2, 3, 100), list(5, 7), {}}
	return []made{
		{sum(), [][]int{{5, 7}}, 97, [][]int{{5, 7, 0, 0}, {7, 0, 0, 5}, {12, 7, 0, 5}}},
		{sum(), [][]int{{5, 7}}, 11, [][]int{{5, -4, 0, 0}, {-4, 0, 0, 5}, {1, -4, 0, 5}}},
		{api.Vectors{Slots: 4, Inputs: inputs(list(2, 0)), Code: code(input(0))}, [][]int{{8, 9}}, 97, [][]int{{9, 0, 8, 0}}},
		{api.Vectors{Slots: 4, Inputs: inputs(list()), Code: code(input(0))}, [][]int{{}}, 97, [][]int{{0, 0, 0, 0}}},
		{api.Vectors{Slots: 4, Inputs: inputs(list(3), list(1, 3)), Code: code(input(1), input(0), input(1), add(0, 1))}, [][]int{{2}, {3, 4}}, 97, [][]int{{0, 3, 0, 4}, {0, 0, 0, 2}, {0, 3, 0, 4}, {0, 3, 0, 6}}},
		{api.Vectors{Slots: 4, Plains: plains, Code: code(constant(0), constant(1), constant(2))}, nil, 97, [][]int{{1, -2, 3, 3}, {5, 7, 0, 0}, {0, 0, 0, 0}}},
		{api.Vectors{Slots: 4, Plains: plains, Code: code(constant(0), addPlain(0, 1), addPlain(1, 0), addPlain(0, 2))}, nil, 97, [][]int{{1, -2, 3, 3}, {6, 5, 3, 3}, {7, 3, 6, 6}, {1, -2, 3, 3}}},
		{api.Vectors{Slots: 4, Plains: plains, Code: code(constant(0), mulPlain(0, 1), mulPlain(1, 0), mulPlain(0, 2))}, nil, 13, [][]int{{1, -2, 3, -4}, {5, -1, 0, 0}, {5, 2, 0, 0}, {0, 0, 0, 0}}},
		{api.Vectors{Slots: 4, Plains: plains, Code: code(constant(0), mul(0, 0), mul(1, 0), add(2, 2))}, nil, 12, [][]int{{1, -2, 3, 4}, {1, 4, -3, 4}, {1, 4, 3, 4}, {2, -4, 6, -4}}},
		{api.Vectors{Slots: 4, Plains: plains, Code: code(constant(0), turn(0, 1), turn(0, 2), turn(0, 3), turn(1, 3))}, nil, 1000, [][]int{{1, -2, 3, 100}, {-2, 3, 100, 1}, {3, 100, 1, -2}, {100, 1, -2, 3}, {1, -2, 3, 100}}},
		{api.Vectors{Slots: 8, Plains: plains, Code: code(constant(0), turn(0, 5), turn(1, 1))}, nil, 1000, [][]int{{1, -2, 3, 100, 0, 0, 0, 0}, {0, 0, 0, 1, -2, 3, 100, 0}, {0, 0, 1, -2, 3, 100, 0, 0}}},
		{api.Vectors{Slots: 4, Inputs: inputs(list(0, 1, 2, 3)), Code: code(input(0), add(0, 0), mul(0, 0))}, [][]int{{0, 1, -1, 3}}, 2, [][]int{{0, 1, 1, 1}, {0, 0, 0, 0}, {0, 1, 1, 1}}},
		{api.Vectors{Slots: 4, Inputs: inputs(list(0, 1, 2, 3)), Code: code(input(0), mul(0, 0), add(0, 0))}, [][]int{{most, -most, -most - 1, most - 1}}, 1 << 30, [][]int{{-1, 1, 0, -2}, {1, 1, 0, 4}, {-2, 2, 0, -4}}},
		{api.Vectors{Slots: 4, Inputs: inputs(list(0, 1, 2, 3)), Code: code(input(0), add(0, 0), mul(0, 0))}, [][]int{{1 << 29, 1<<29 + 1, -1 << 29, 1<<29 - 1}}, 1 << 30, [][]int{{1 << 29, 1 - 1<<29, 1 << 29, 1<<29 - 1}, {0, 2, 0, -2}, {0, 1, 0, 1}}},
	}
}

func TestByHand(t *testing.T) {
	for _, h := range byHand() {
		if got, err := vector.Run(h.v, h.inputs, h.t); err != api.OK || !sameLists(got, h.values) {
			t.Error(h.v, h.inputs, h.t, got, err)
		}
		if err := vector.Check(h.v); err != api.OK {
			t.Error(h.v, err)
		}
	}
}

// The chapter's example.
func TestExample(t *testing.T) {
	values, err := vector.Run(sum(), [][]int{{5, 7}}, 97)
	if err != api.OK || len(values) != 3 || !slices.Equal(values[2], list(12, 7, 0, 5)) {
		t.Error(values, err)
	}
	if steps := vector.Steps(sum()); !slices.Equal(steps, list(1)) {
		t.Error(steps)
	}
}

// The example of the whole: a Dense of the row 5 7, from two entries, of four slots.
func TestExampleOfTheWhole(t *testing.T) {
	v := api.Vectors{Slots: 4, Inputs: inputs(list(0, 1)), Plains: [][]int{{5, 0, 0, 0}, {7, 0, 0, 0}}, Code: code(input(0), mulPlain(0, 0), turn(0, 1), mulPlain(2, 1), add(1, 3)), Last: 4, Out: list(0)}
	values, err := vector.Run(v, [][]int{{2, -3}}, 97)
	if err != api.OK || vector.Check(v) != api.OK || !slices.Equal(values[v.Last], list(-11, 0, 0, 0)) {
		t.Error(values, err)
	}
}

// allSlots are all numbers of slots that may be.
func allSlots() []int { return list(4, 8, 16, 32, 64, 128, 256, 512, 1024, 2048) }

// numbered has unlike numbers.
func numbered(count int) []int {
	row := make([]int, count)
	for i := range row {
		row[i] = i*i - 3*i - 7
	}
	return row
}

// Turned by k and by what is lacking to all slots a row is as it was; in slot s stands what was k behind it.
func TestTurnsThereAndBack(t *testing.T) {
	for _, slots := range allSlots() {
		steps := slices.Compact(list(1, 2, 3, slots/2, slots-2, slots-1))
		if slots <= 64 {
			steps = nil
			for k := 1; k < slots; k++ {
				steps = append(steps, k)
			}
		}
		for _, k := range steps {
			v := api.Vectors{Slots: slots, Plains: [][]int{numbered(slots)}, Code: code(constant(0), turn(0, k), turn(1, slots-k)), Last: 2}
			values, err := vector.Run(v, nil, 1<<30)
			if err != api.OK || !slices.Equal(values[0], numbered(slots)) || !slices.Equal(values[2], values[0]) {
				t.Fatal(slots, k, err)
			}
			for s, number := range values[1] {
				if number != values[0][(s+k)%slots] {
					t.Fatal(slots, k, s)
				}
			}
		}
	}
}

// Each kind by itself, modulo many t: small ones, great ones, primes or not.
func TestEachKindModuloAll(t *testing.T) {
	kinds := code(input(0), constant(0), add(0, 1), addPlain(0, 1), mulPlain(0, 0), mul(0, 1), turn(1, 3))
	v := api.Vectors{Slots: 8, Inputs: inputs(list(7, 1, 2, 4, 0)), Plains: [][]int{list(-3, 1<<20, -1<<20, math.MaxInt, 5, 6, math.MinInt, 8), list(1<<20, -1<<20, 9)}, Code: kinds}
	rows := [][]int{{math.MinInt, math.MaxInt, -1, 12345678901, 3}}
	var moduli []uint64
	for m := range uint64(300) {
		moduli = append(moduli, m+2, 1<<30-m, 1<<29+m, 1<<20+150-m)
	}
	for _, m := range moduli {
		if runsAsJudged(t, v, rows, m) != api.OK {
			t.Error("refused", m)
		}
	}
}

// greatest is the longest program of the most slots.
func greatest() api.Vectors {
	v := api.Vectors{Slots: 2048, Inputs: inputs(numbered(0)), Plains: [][]int{numbered(2048)}, Code: code(constant(0))}
	for i := 1; i < api.MaxInstr; i++ {
		v.Code = append(v.Code, []api.Instr{add(i-1, 0), mul(i-1, i-1), turn(i-1, i), addPlain(i-1, 0), mulPlain(0, 0)}[i%5])
		v.Code[i].To = i
		v.Code[i].K %= 2048
	}
	v.Last = api.MaxInstr - 1
	return v
}

func TestGreatest(t *testing.T) {
	if err := runsAsJudged(t, greatest(), [][]int{nil}, 1<<30-35); err != api.OK {
		t.Error(err)
	}
	if isAsJudged(t, greatest()) != api.OK {
		t.Error("refused")
	}
}

// Lists that are empty may be nil or empty, and a plain may have no numbers at all.
func TestEmptyLists(t *testing.T) {
	for _, empty := range [][]int{nil, {}} {
		for _, rows := range [][][]int{{nil}, {{}}} {
			v := api.Vectors{Slots: 4, Inputs: inputs(empty), Plains: [][]int{empty}, Code: code(input(0), constant(0)), Out: empty}
			if runsAsJudged(t, v, rows, 5) != api.OK {
				t.Error("refused", v)
			}
		}
	}
	for _, rows := range [][][]int{nil, {}} {
		v := api.Vectors{Slots: 4, Inputs: []api.Input{}, Plains: [][]int{{1}}, Code: code(constant(0))}
		if runsAsJudged(t, v, rows, 5) != api.OK {
			t.Error("refused", v)
		}
	}
}

// What an input has to be is asked elsewhere: any numbers are taken, and any ends.
func TestEndsOfInputsAreNotAsked(t *testing.T) {
	v := sum()
	v.Inputs[0].Lo, v.Inputs[0].Hi = 3, -math.MaxInt
	if got, err := vector.Run(v, [][]int{{5, 7}}, 97); err != api.OK || !slices.Equal(got[2], list(12, 7, 0, 5)) {
		t.Error(got, err)
	}
}

func TestStepsByHand(t *testing.T) {
	for _, h := range []struct {
		slots int
		ks    []int
		want  []int
	}{
		{4, nil, nil},
		{4, list(1), list(1)},
		{4, list(3, 1, 2, 1, 3), list(1, 2, 3)},
		{4, list(0, 4, -1, 5, math.MinInt, math.MaxInt, 3), list(3)},
		{8, list(7, 8, 4, 0), list(4, 7)},
		{0, list(0, 1, -1), nil},
		{1, list(0, 1, -1), nil},
		{2, list(0, 1, 2), list(1)},
		{-5, list(0, 1, -1, -6, -7), nil},
		{math.MinInt, list(0, 1, -1, math.MinInt, math.MaxInt), nil},
		{math.MaxInt, list(math.MaxInt, math.MaxInt-1, 5, 1<<40, 0), list(5, 1<<40, math.MaxInt-1)},
	} {
		v := api.Vectors{Slots: h.slots}
		for i, k := range h.ks {
			// Of other kinds K is no step.
			v.Code = append(v.Code, api.Instr{Op: api.OpTurn, A: i - 5, B: i, To: -i, K: k}, api.Instr{Op: i % 8, K: h.slots - 2}, api.Instr{Op: 9 + i, K: 1})
		}
		if got := vector.Steps(v); !slices.Equal(got, h.want) {
			t.Error(h, got)
		}
	}
}
