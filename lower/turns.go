package lower

import "slices"

// multiplied lays a value's turns times their diagonals, summed up stride by stride. Of one stride, as long as all slots, no sum is turned.
func (l *lowerer) multiplied(x int, diagonals [][]int) int {
	turns, total := map[int]int{0: x}, nothing
	for start := 0; start < l.Slots; start += l.stride {
		sum := l.ofStride(turns, diagonals[start:start+l.stride], start)
		if sum != nothing {
			total = l.plus(total, l.turned(sum, start))
		}
	}
	if total == nothing {
		return l.zero(x)
	}
	return total
}

// ofStride lays what the diagonals from a start on bring; as the sum is turned by the start afterwards, they are moved back by so much ahead of it. Turns holds those that are laid: what one stride needed the next one takes.
func (l *lowerer) ofStride(turns map[int]int, diagonals [][]int, start int) int {
	sum := nothing
	for by, diagonal := range diagonals {
		if len(diagonal) == 0 {
			continue
		}
		if _, isLaid := turns[by]; !isLaid {
			turns[by] = l.turned(turns[0], by)
		}
		sum = l.plus(sum, l.mulPlain(turns[by], movedBack(diagonal, start)))
	}
	return sum
}

// movedBack is a row whose slot s has what was in slot s - by.
func movedBack(row []int, by int) []int {
	cut := len(row) - by
	return slices.Concat(row[cut:], row[:cut])
}
