package ntt

import "math/bits"

// way tells the factor that belongs to a place of a joined list; step is how many such lists there are, and so by how many powers of the root's square the factors of neighbouring places differ.
type way func(step, place int) factor

// values are a polynomial's, at the root's odd powers.
func (t *Table) values(a []uint64) []uint64 {
	return t.transform(a, t.onward)
}

// coefficients are those of the polynomial with these values.
func (t *Table) coefficients(v []uint64) []uint64 {
	list := t.transform(v, t.backward)
	for i, end := range t.ends {
		list[i] = end.times(list[i], t.prime)
	}
	return list
}

// onward is the number x at which the joined list has a value: it is that of the even coefficients at x x, plus x times that of the odd ones.
func (t *Table) onward(step, place int) factor {
	return t.powers[(2*place+1)*step]
}

// backward is an even power of the root's inverse: going back is going on with these, but for what the ends make good.
func (t *Table) backward(step, place int) factor {
	return t.powers[(len(t.powers)-2*place*step)%len(t.powers)]
}

// transform is the one loop of both ways: lists of one number are joined, two by two, until one is left.
func (t *Table) transform(numbers []uint64, factorAt way) []uint64 {
	list := scattered(numbers)
	for half := 1; half < t.size; half *= 2 {
		t.join(list, half, factorAt)
	}
	return list
}

// join makes one list of each two neighbouring ones of half its length. A place and the one half further on have opposite factors, so one product serves both.
func (t *Table) join(list []uint64, half int, factorAt way) {
	whole := 2 * half
	step := t.size / whole
	for place := range half {
		x := factorAt(step, place)
		for at := place; at < t.size; at += whole {
			even, odd := list[at], x.times(list[at+half], t.prime)
			list[at], list[at+half] = plus(even, odd, t.prime), minus(even, odd, t.prime)
		}
	}
}

// scattered is a new list with each number at the place whose bits are its own place's in reverse: lists that are joined then stand side by side.
func scattered(numbers []uint64) []uint64 {
	list := make([]uint64, len(numbers))
	unused := bits.LeadingZeros64(uint64(len(numbers) - 1))
	for i, number := range numbers {
		list[bits.Reverse64(uint64(i))>>unused] = number
	}
	return list
}
