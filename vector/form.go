package vector

import (
	"math/bits"
	"slices"

	"arras/api"
)

const leastSlots = 4

func mayBe(v api.Vectors) bool {
	if v.Slots < leastSlots || v.Slots > api.MaxN/2 || bits.OnesCount(uint(v.Slots)) != 1 {
		return false
	}
	if len(v.Code) > api.MaxInstr || !isBelow(v.Last, len(v.Code)) {
		return false
	}
	isTooLong := func(plain []int) bool { return len(plain) > v.Slots }
	hasOther := func(in api.Input) bool { return !arePlaces(in.Slots, v.Slots) }
	if slices.ContainsFunc(v.Plains, isTooLong) || slices.ContainsFunc(v.Inputs, hasOther) || !arePlaces(v.Out, v.Slots) {
		return false
	}
	for i, n := range v.Code {
		if n.To != i || !formOf(v, n).has(n) {
			return false
		}
	}
	return true
}

// form is what an instruction may have: A and B below their ends, K from the least on, below its end. Of a field that its kind doesn't have the end is one that 0 alone is below.
type form struct{ endA, endB, leastK, endK int }

const absent = 1

// formOf tells the form of an instruction's kind; of a number that is no kind's it is one that nothing has.
func formOf(v api.Vectors, n api.Instr) form {
	switch n.Op {
	case api.OpInput:
		return form{absent, absent, 0, len(v.Inputs)}
	case api.OpConst:
		return form{absent, absent, 0, len(v.Plains)}
	case api.OpAdd, api.OpMul:
		return form{n.To, n.To, 0, absent}
	case api.OpAddP, api.OpMulP:
		return form{n.To, absent, 0, len(v.Plains)}
	case api.OpTurn:
		return form{n.To, absent, 1, v.Slots}
	}
	return form{}
}

func (f form) has(n api.Instr) bool {
	return isBelow(n.A, f.endA) && isBelow(n.B, f.endB) && n.K >= f.leastK && n.K < f.endK
}

func isBelow(number, end int) bool {
	return number >= 0 && number < end
}

// arePlaces asks whether all are slots, each at most once.
func arePlaces(places []int, slots int) bool {
	rising := slices.Sorted(slices.Values(places))
	for i, place := range rising {
		if !isBelow(place, slots) || i > 0 && place == rising[i-1] {
			return false
		}
	}
	return true
}
