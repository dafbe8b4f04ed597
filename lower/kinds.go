package lower

import (
	"slices"

	"arras/api"
	"arras/linear"
)

// A Power's Data has these numbers.
const (
	powerC = iota
	powerB
	powerA
)

// laidBy is what lays a kind's nodes, and tells their values.
func laidBy(kind int) func(l *lowerer, n api.Node) int {
	switch kind {
	case api.KindInput:
		return (*lowerer).input
	case api.KindConst:
		return (*lowerer).constant
	case api.KindAdd:
		return (*lowerer).add
	case api.KindScale:
		return (*lowerer).scale
	case api.KindPower:
		return (*lowerer).power
	case api.KindFlat:
		return (*lowerer).flat
	}
	return (*lowerer).rows
}

func (l *lowerer) input(n api.Node) int {
	number := len(l.Inputs)
	// The places of its own: they may be those that come out, too.
	l.Inputs = append(l.Inputs, api.Input{Lo: n.Lo, Hi: n.Hi, Slots: slices.Clone(l.here())})
	return l.lay(api.Instr{Op: api.OpInput, K: number})
}

func (l *lowerer) constant(n api.Node) int {
	return l.lay(api.Instr{Op: api.OpConst, K: l.plain(l.standing(n.Data))})
}

func (l *lowerer) add(n api.Node) int {
	return l.plus(l.values[n.A], l.values[n.B])
}

func (l *lowerer) scale(n api.Node) int {
	return l.mulPlain(l.values[n.A], l.alike(n.Data[0]))
}

func (l *lowerer) power(n api.Node) int {
	x, value := l.values[n.A], nothing
	if a := n.Data[powerA]; a != 0 {
		value = l.times(l.lay(api.Instr{Op: api.OpMul, A: x, B: x}), a)
	}
	if b := n.Data[powerB]; b != 0 {
		value = l.plus(value, l.times(x, b))
	}
	if value == nothing {
		value = l.zero(x)
	}
	if c := n.Data[powerC]; c != 0 {
		value = l.addPlain(value, l.alike(c))
	}
	return value
}

// times is a value times a number, itself by 1.
func (l *lowerer) times(value, number int) int {
	if number == 1 {
		return value
	}
	return l.mulPlain(value, l.alike(number))
}

func (l *lowerer) flat(n api.Node) int {
	if slices.Equal(l.places[n.A], l.here()) {
		return l.values[n.A]
	}
	return l.rows(n)
}

// rows lays what is linear by its rows' diagonals.
func (l *lowerer) rows(n api.Node) int {
	x, in, from := l.values[n.A], l.shapes[n.A], l.places[n.A]
	n.A = 0
	// Neither is refused: the graph may be, and the places are slots.
	rows, biases, _ := linear.Rows(n, in)
	diagonals, _ := linear.Diagonals(rows, from, l.here(), l.Slots)
	value := l.multiplied(x, diagonals)
	if slices.ContainsFunc(biases, func(bias int) bool { return bias != 0 }) {
		value = l.addPlain(value, l.standing(biases))
	}
	return value
}
