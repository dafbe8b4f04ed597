package lower

import (
	"slices"

	"arras/api"
)

// nothing stands for a value where none is laid yet.
const nothing = -1

// lowerer lays a program, node by node. Of each node it knows shape and places, of those that are laid the values.
type lowerer struct {
	api.Vectors
	stride         int
	shapes, places [][]int
	values         []int
}

// lay lays an instruction behind all others.
func (l *lowerer) lay(n api.Instr) int {
	n.To = len(l.Code)
	l.Code = append(l.Code, n)
	return n.To
}

// plus is the sum of two values, the other one itself if there is nothing yet.
func (l *lowerer) plus(sum, value int) int {
	if sum == nothing {
		return value
	}
	return l.lay(api.Instr{Op: api.OpAdd, A: sum, B: value})
}

// turned is a value turned, itself by 0.
func (l *lowerer) turned(value, by int) int {
	if by == 0 {
		return value
	}
	return l.lay(api.Instr{Op: api.OpTurn, A: value, K: by})
}

func (l *lowerer) mulPlain(value int, row []int) int {
	return l.lay(api.Instr{Op: api.OpMulP, A: value, K: l.plain(row)})
}

func (l *lowerer) addPlain(value int, row []int) int {
	return l.lay(api.Instr{Op: api.OpAddP, A: value, K: l.plain(row)})
}

// plain is the number of a row among the plains, where it stands once.
func (l *lowerer) plain(row []int) int {
	isRow := func(other []int) bool { return slices.Equal(other, row) }
	number := slices.IndexFunc(l.Plains, isRow)
	if number < 0 {
		number = len(l.Plains)
		l.Plains = append(l.Plains, row)
	}
	return number
}

// here are the places of the node that is being laid.
func (l *lowerer) here() []int {
	return l.places[len(l.values)]
}

// standing is a row of numbers in the places of the node that is being laid.
func (l *lowerer) standing(numbers []int) []int {
	row := make([]int, l.Slots)
	for entry, slot := range l.here() {
		row[slot] = numbers[entry]
	}
	return row
}

// alike is a row of one number in all of these places.
func (l *lowerer) alike(number int) []int {
	return l.standing(slices.Repeat([]int{number}, len(l.here())))
}

// zero is a value that is 0 in all slots.
func (l *lowerer) zero(value int) int {
	return l.mulPlain(value, make([]int, l.Slots))
}
