package vector

import (
	"slices"

	"arras/api"
	"arras/word"
)

// machine makes a program's values, one behind the other, each a row of numbers centered modulo t.
type machine struct {
	api.Vectors
	rows   [][]int
	t      uint64
	values [][]int
}

// does is what an instruction of a kind does.
func (m *machine) does(op int) func(n api.Instr) []int {
	switch op {
	case api.OpInput:
		return m.input
	case api.OpConst:
		return m.constant
	case api.OpAdd:
		return m.add
	case api.OpAddP:
		return m.addPlain
	case api.OpMul:
		return m.mul
	case api.OpMulP:
		return m.mulPlain
	}
	return m.turn
}

func (m *machine) input(n api.Instr) []int {
	value := make([]int, m.Slots)
	for entry, slot := range m.Inputs[n.K].Slots {
		value[slot] = m.centered(m.lifted(m.rows[n.K][entry]))
	}
	return value
}

func (m *machine) constant(n api.Instr) []int {
	value := make([]int, m.Slots)
	for s, v := range m.Plains[n.K] {
		value[s] = m.centered(m.lifted(v))
	}
	return value
}

func (m *machine) add(n api.Instr) []int {
	return m.joined(word.Add, m.values[n.A], m.values[n.B])
}

func (m *machine) addPlain(n api.Instr) []int {
	return m.joined(word.Add, m.values[n.A], m.constant(n))
}

func (m *machine) mul(n api.Instr) []int {
	return m.joined(word.Mul, m.values[n.A], m.values[n.B])
}

func (m *machine) mulPlain(n api.Instr) []int {
	return m.joined(word.Mul, m.values[n.A], m.constant(n))
}

func (m *machine) turn(n api.Instr) []int {
	value := m.values[n.A]
	return slices.Concat(value[n.K:], value[:n.K])
}

// joined are two rows, slot by slot.
func (m *machine) joined(by func(a, b, t uint64) uint64, a, b []int) []int {
	value := make([]int, m.Slots)
	for s := range value {
		value[s] = m.centered(by(m.lifted(a[s]), m.lifted(b[s]), m.t))
	}
	return value
}

func (m *machine) lifted(v int) uint64 {
	return word.Lift(int64(v), m.t)
}

func (m *machine) centered(v uint64) int {
	return int(word.Center(v, m.t))
}
