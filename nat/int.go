package nat

import "arras/api"

// Sum is a sum of whole numbers.
func Sum(a, b api.Int) api.Int {
	if a.Neg == b.Neg {
		return signed(a.Neg, Add(a.Abs, b.Abs))
	}
	if Cmp(a.Abs, b.Abs) < 0 {
		a, b = b, a
	}
	return signed(a.Neg, less(trimmed(a.Abs), trimmed(b.Abs)))
}

// Times is a product of whole numbers.
func Times(a, b api.Int) api.Int {
	return signed(a.Neg != b.Neg, Mul(a.Abs, b.Abs))
}

// Near is the nearest whole number to a quotient.
func Near(a api.Int, b api.Nat) (api.Int, api.Errno) {
	size, rest, err := Div(a.Abs, b)
	if err != api.OK {
		return api.Int{}, err
	}
	// A half goes to the greater one: away from 0 above it, towards 0 below it.
	side := Cmp(Add(rest, rest), b)
	if side > 0 || side == 0 && !a.Neg {
		size = Add(size, Of(1))
	}
	return signed(a.Neg, size), api.OK
}

// signed is a whole number of a size that was made here; 0 is never below 0.
func signed(neg bool, size api.Nat) api.Int {
	return api.Int{Neg: neg && len(size) > 0, Abs: size}
}
