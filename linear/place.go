package linear

import "math/bits"

// The layouts.
const (
	layoutClose = iota
	layoutApart
)

// Where a picture's height and width stand in its shape, and how many numbers that has.
const (
	height         = 1
	width          = 2
	pictureNumbers = 3
)

// spot is the place of a picture's entry.
type spot struct{ channel, y, x int }

func spotOf(entry int, shape []int) spot {
	line := entry / shape[width]
	return spot{line / shape[height], line % shape[height], entry % shape[width]}
}

// arePlaces asks whether all are slots, each at most once.
func arePlaces(places []int, slots int) bool {
	isTaken := make([]bool, slots)
	for _, place := range places {
		if place < 0 || place >= slots || isTaken[place] {
			return false
		}
		isTaken[place] = true
	}
	return true
}

// powerFrom is the least power of two that isn't less than a number, which is 1 or more.
func powerFrom(least int) int {
	return 1 << bits.Len(uint(least-1))
}
