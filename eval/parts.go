package eval

import (
	"slices"

	"arras/api"
	"arras/word"
)

// each is what do makes of parts, one behind the other. All are such as do takes, so nothing can be refused.
func each(parts []api.Poly, do func(part api.Poly) (api.Poly, api.Errno)) []api.Poly {
	made := make([]api.Poly, len(parts))
	for i, part := range parts {
		made[i], _ = do(part)
	}
	return made
}

// paired is what join makes of two rows of elements of one level, two by two. Nothing can be refused, for the same reason.
func paired(join func(a, b api.Poly) (api.Poly, api.Errno), a, b []api.Poly) []api.Poly {
	made := make([]api.Poly, len(a))
	for i, part := range a {
		made[i], _ = join(part, b[i])
	}
	return made
}

// sum is the ciphertext of two rows of elements of a level, part by part.
func (v *Eval) sum(level int, a, b []api.Poly) api.Cipher {
	count := max(len(a), len(b))
	return api.Cipher{C: paired(v.ring.Add, v.filled(a, count, level), v.filled(b, count, level))}
}

// filled is a row of so many parts of a level: those that are lacking are 0.
func (v *Eval) filled(row []api.Poly, count, level int) []api.Poly {
	filled := slices.Clone(row)
	for len(filled) < count {
		filled = append(filled, v.nought(level))
	}
	return filled
}

// product is the ciphertext of two parts times two parts, all of one level.
func (v *Eval) product(a, b []api.Poly) api.Cipher {
	dot := func(a, b []api.Poly) api.Poly {
		// There are at most two products to a sum, so nothing can be refused.
		scaled, _ := v.scale.Dot(a, b)
		return scaled
	}
	crossed := []api.Poly{b[1], b[0]}
	return api.Cipher{C: []api.Poly{dot(a[:1], b[:1]), dot(a, crossed), dot(a[1:], b[1:])}}
}

// switched is an element of a level, switched by a key that is right.
func (v *Eval) switched(f api.Poly, level int, k api.Switch) []api.Poly {
	digits := v.digits(f, level)
	return []api.Poly{v.weighed(digits, k.B, level), v.weighed(digits, k.A, level)}
}

// digits are an element's of a level.
func (v *Eval) digits(f api.Poly, level int) []api.Poly {
	digits := make([]api.Poly, len(f.R))
	for place, residues := range f.R {
		centered := make([]int64, len(residues))
		for i, c := range residues {
			centered[i] = word.Center(c, v.params.Q[place])
		}
		digits[place] = v.lifted(centered, level)
	}
	return digits
}

// weighed is the sum of all digits of an element of a level, each times its element of one side of a key. What the key has for primes beyond the level isn't needed.
func (v *Eval) weighed(digits, side []api.Poly, level int) api.Poly {
	cut := func(element api.Poly) (api.Poly, api.Errno) { return v.ring.Drop(element, level) }
	sum := v.nought(level)
	for _, product := range paired(v.ring.Mul, digits, each(side[:len(digits)], cut)) {
		// All are of one level, so nothing can be refused.
		sum, _ = v.ring.Add(sum, product)
	}
	return sum
}

// nought is the element 0 of a level.
func (v *Eval) nought(level int) api.Poly {
	return v.lifted(make([]int64, v.params.N), level)
}

// lifted is the element of a level of so many numbers as elements have.
func (v *Eval) lifted(numbers []int64, level int) api.Poly {
	element, _ := v.ring.Lift(numbers, level)
	return element
}
