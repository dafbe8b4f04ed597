package vector_test

import (
	"math"
	"slices"
	"testing"

	"arras/api"
	"arras/vector"
)

// right is a program of eight slots that has an instruction of each kind.
func right() api.Vectors {
	return api.Vectors{
		Slots:  8,
		Inputs: inputs(list(0, 1, 2), list(7, 0)),
		Plains: [][]int{list(1, 2, 3, 4, 5, 6, 7, 8), list(9), {}},
		Code:   code(input(1), constant(2), add(0, 1), addPlain(0, 2), mulPlain(3, 1), mul(4, 4), turn(5, 7), input(0)),
		Last:   7,
		Out:    list(7, 3, 0),
	}
}

// refuses asks that a program may not be, and that Run says so of whatever else.
func refuses(t *testing.T, what string, v api.Vectors) {
	t.Helper()
	if judgedCheck(v) != api.ErrForm || vector.Check(v) != api.ErrForm {
		t.Error("taken:", what)
	}
	for _, m := range []uint64{97, 0, 1, api.MaxT + 1} {
		for _, rows := range [][][]int{nil, {{1, 2, 3}, {4, 5}}, {{1}}} {
			if got, err := vector.Run(v, rows, m); err != api.ErrForm || got != nil {
				t.Error("run:", what, got, err)
			}
		}
	}
}

// takes asks that a program may be.
func takes(t *testing.T, what string, v api.Vectors) {
	t.Helper()
	if judgedCheck(v) != api.OK || vector.Check(v) != api.OK {
		t.Error("refused:", what)
	}
}

func TestSlots(t *testing.T) {
	plain := func(slots int) api.Vectors {
		return api.Vectors{Slots: slots, Plains: [][]int{{1}}, Code: code(constant(0))}
	}
	for slots := -10; slots <= 5000; slots++ {
		if slices.Contains(allSlots(), slots) {
			takes(t, "slots", plain(slots))
		} else {
			refuses(t, "slots", plain(slots))
		}
	}
	for bit := 13; bit < 64; bit++ {
		refuses(t, "many slots", plain(1<<bit))
		refuses(t, "many slots", plain(1<<bit+4))
	}
	refuses(t, "slots", plain(math.MaxInt))
	refuses(t, "slots", plain(math.MinInt))
}

func TestLongPlains(t *testing.T) {
	for _, slots := range allSlots() {
		for place := range 3 {
			for _, count := range list(0, 1, slots-1, slots) {
				v := api.Vectors{Slots: slots, Plains: make([][]int, 3), Code: code(constant(0))}
				v.Plains[place] = make([]int, count)
				takes(t, "a plain", v)
			}
			v := api.Vectors{Slots: slots, Plains: make([][]int, 3), Code: code(constant(0))}
			v.Plains[place] = make([]int, slots+1)
			refuses(t, "a plain that is too long", v)
		}
	}
}

// As many plains and inputs may be as one likes.
func TestManyPlainsAndInputs(t *testing.T) {
	v := right()
	v.Plains, v.Inputs = make([][]int, 3000), make([]api.Input, 3000)
	v.Code = code(input(2999), mulPlain(0, 2999), addPlain(1, 0), constant(2500))
	v.Last = 3
	takes(t, "many", v)
	if values, err := vector.Run(v, make([][]int, 3000), 97); err != api.OK || len(values) != 4 {
		t.Error(err)
	}
	v.Code[0].K = 3000
	refuses(t, "an input that isn't there", v)
	v.Code[0].K, v.Code[1].K = 0, 3000
	refuses(t, "a plain that isn't there", v)
}

func TestHowManyInstructions(t *testing.T) {
	v := right()
	v.Code = nil
	refuses(t, "none", v)
	v.Last = 0
	refuses(t, "none", v)
	for _, count := range list(1, 2, api.MaxInstr-1, api.MaxInstr, api.MaxInstr+1, 2*api.MaxInstr) {
		v.Code = code(slices.Repeat(code(input(0)), count)...)
		v.Last = count / 2
		if count <= api.MaxInstr {
			takes(t, "instructions", v)
		} else {
			refuses(t, "too many instructions", v)
		}
	}
}

func TestNumbersOfInstructions(t *testing.T) {
	for i := range right().Code {
		for _, to := range list(i-1, i+1, 0, -1, len(right().Code), math.MaxInt, math.MinInt) {
			v := right()
			v.Code[i].To = to
			if to == i {
				takes(t, "its number", v)
			} else {
				refuses(t, "another number", v)
			}
		}
	}
}

// Of each kind each field at its ends and beyond: what it has goes to its last number, what it doesn't have is 0.
func TestFieldsOfInstructions(t *testing.T) {
	ends := func(v api.Vectors, i int) (a, b, first, k int) {
		switch v.Code[i].Op {
		case api.OpInput:
			return 1, 1, 0, 2
		case api.OpConst:
			return 1, 1, 0, 3
		case api.OpAdd, api.OpMul:
			return i, i, 0, 1
		case api.OpAddP, api.OpMulP:
			return i, 1, 0, 3
		}
		return i, 1, 1, 8
	}
	kinds := map[int]int{}
	for i, n := range right().Code {
		endA, endB, firstK, endK := ends(right(), i)
		for _, number := range list(-2, -1, 0, 1, 2, 3, 4, 5, 6, 7, 8, 9, 2048, math.MaxInt, math.MinInt, 1<<32, 1<<32+1) {
			v := right()
			v.Code[i].A = number
			holds(t, v, number >= 0 && number < endA)
			v = right()
			v.Code[i].B = number
			holds(t, v, number >= 0 && number < endB)
			v = right()
			v.Code[i].K = number
			holds(t, v, number >= firstK && number < endK)
		}
		kinds[n.Op]++
	}
	if len(kinds) != 7 {
		t.Error("not each kind", kinds)
	}
}

func holds(t *testing.T, v api.Vectors, mayBe bool) {
	t.Helper()
	if mayBe {
		takes(t, "a field", v)
	} else {
		refuses(t, "a field", v)
	}
}

// The first instruction can take none.
func TestNothingAheadOfTheFirst(t *testing.T) {
	for _, n := range code(add(0, 0), addPlain(0, 0), mulPlain(0, 0), mul(0, 0), turn(0, 1)) {
		v := right()
		v.Code, v.Last = code(n), 0
		refuses(t, "the first one", v)
	}
	for _, n := range code(input(0), constant(0)) {
		v := right()
		v.Code, v.Last = code(n), 0
		takes(t, "the first one", v)
	}
}

func TestKindsOfInstructions(t *testing.T) {
	for _, kind := range list(0, 7, 9, 10, 11, -1, -8, 1<<32+1, 1<<8+1, math.MaxInt, math.MinInt) {
		for i, n := range right().Code {
			v := right()
			v.Code[i].Op = kind
			refuses(t, "no kind", v)
			v.Code[i] = api.Instr{Op: kind, To: n.To}
			refuses(t, "no kind", v)
		}
	}
}

func TestTurns(t *testing.T) {
	for _, slots := range allSlots() {
		for _, k := range list(-slots, -1, 0, 1, slots/2, slots-1, slots, slots+1, 2*slots+1, 2048, math.MinInt) {
			v := api.Vectors{Slots: slots, Inputs: inputs(list()), Code: code(input(0), turn(0, k)), Last: 1}
			holds(t, v, k >= 1 && k < slots)
		}
	}
}

func TestLast(t *testing.T) {
	for _, last := range list(-1, -8, 0, 3, 7, 8, 9, math.MaxInt, math.MinInt) {
		v := right()
		v.Last = last
		holds(t, v, last >= 0 && last < 8)
	}
}

func TestPlaces(t *testing.T) {
	for _, h := range []struct {
		places []int
		mayBe  bool
	}{
		{nil, true},
		{list(), true},
		{list(0), true},
		{list(7), true},
		{list(8), false},
		{list(-1), false},
		{list(3, 8), false},
		{list(8, 3), false},
		{list(-1, 3), false},
		{list(3, -1), false},
		{list(3, 3), false},
		{list(0, 0), false},
		{list(7, 7), false},
		{list(3, 2, 3), false},
		{list(3, 2, 4), true},
		{list(7, 6, 5, 4, 3, 2, 1, 0), true},
		{list(7, 6, 5, 4, 3, 2, 1, 7), false},
		{list(7, 6, 5, 4, 3, 2, 1, 0, 0), false},
		{list(7, 6, 5, 4, 3, 2, 1, 0, 8), false},
		{list(math.MaxInt), false},
		{list(math.MinInt), false},
		{list(1, math.MinInt, math.MaxInt), false},
		{list(1, 1<<32+2), false},
	} {
		for place := range 3 {
			v := right()
			*[]*[]int{&v.Out, &v.Inputs[0].Slots, &v.Inputs[1].Slots}[place] = h.places
			holds(t, v, h.mayBe)
		}
	}
}

// Of one program the same place may stand in several lists.
func TestPlacesOfSeveralLists(t *testing.T) {
	v := right()
	v.Inputs[0].Slots, v.Inputs[1].Slots, v.Out = list(1, 2), list(2, 1), list(1, 2)
	takes(t, "the same places", v)
}

func TestModulus(t *testing.T) {
	rows := [][]int{{1, 2, 3}, {4, 5}}
	for _, m := range []uint64{0, 1, api.MaxT + 1, api.MaxT + 2, 1 << 31, 1 << 32, 1<<32 + 97, 1 << 62, 1<<62 + 1, 1<<63 + 97, 1<<64 - 1} {
		for _, rows := range [][][]int{rows, nil, {{1, 2}, {4, 5}}, rows[:1]} {
			if got, err := vector.Run(right(), rows, m); err != api.ErrArg || got != nil {
				t.Error(m, got, err)
			}
		}
	}
	for _, m := range []uint64{2, 3, 4, 1 << 20, api.MaxT - 1, api.MaxT} {
		if runsAsJudged(t, right(), rows, m) != api.OK {
			t.Error("refused", m)
		}
	}
}

func TestRowsOfInputs(t *testing.T) {
	for _, rows := range [][][]int{
		nil,
		{},
		{{1, 2, 3}},
		{{1, 2, 3}, {4, 5}, {}},
		{{1, 2, 3}, {4, 5}, {4, 5}},
		{nil, {4, 5}},
		{{1, 2, 3}, nil},
		{{1, 2}, {4, 5}},
		{{1, 2, 3, 4}, {4, 5}},
		{{1, 2, 3}, {4}},
		{{1, 2, 3}, {4, 5, 6}},
		{{4, 5}, {1, 2, 3}},
		{{1, 2}, {3, 4, 5}},
		{{1, 2, 3, 4, 5, 6, 7, 8}, {1, 2, 3, 4, 5, 6, 7, 8}},
	} {
		if got, err := vector.Run(right(), rows, 97); err != api.ErrInput || got != nil {
			t.Error(rows, got, err)
		}
	}
	// Of an input that no instruction takes, too.
	v := right()
	v.Code, v.Last = v.Code[:1], 0
	if got, err := vector.Run(v, [][]int{{1, 2}, {4, 5}}, 97); err != api.ErrInput || got != nil {
		t.Error(got, err)
	}
	if runsAsJudged(t, v, [][]int{{1, 2, 3}, {4, 5}}, 97) != api.OK {
		t.Error("refused")
	}
}

// What has no instructions at all is a program of zero values.
func TestNothing(t *testing.T) {
	refuses(t, "nothing", api.Vectors{})
	if steps := vector.Steps(api.Vectors{}); len(steps) > 0 {
		t.Error(steps)
	}
}
