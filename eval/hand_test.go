package eval_test

import (
	"testing"

	"arras/api"
)

// lifted is an element of N 8 and a row of primes, of the first numbers: those behind them are 0.
func lifted(row []uint64, numbers ...int64) api.Poly {
	var a api.Poly
	for _, q := range row {
		list := make([]uint64, 8)
		for i, v := range numbers {
			list[i] = uint64((v%int64(q) + int64(q)) % int64(q))
		}
		a.R = append(a.R, list)
	}
	return a
}

func parts(elements ...api.Poly) api.Cipher { return api.Cipher{C: elements} }

// The modulus of level 1 is 18721, its step 1101; that of level 0 is 97, its step 5.

func TestAddByHand(t *testing.T) {
	v, row := evalOf(t, example()), example().Q
	two := parts(lifted(row, 1, 9000), lifted(row, 0, 0, -5))
	three := parts(lifted(row, 2, 9000, 7), lifted(row, 4), lifted(row, 0, 0, 0, 0, 0, 0, 0, 6))
	// 18000 is beyond half of the modulus.
	want := parts(lifted(row, 3, -721, 7), lifted(row, 4, 0, -5), lifted(row, 0, 0, 0, 0, 0, 0, 0, 6))
	got, err := v.Add(two, three)
	right(t, "two and three", got, err, want)
	got, err = v.Add(three, two)
	right(t, "three and two", got, err, want)
}

func TestAddTextByHand(t *testing.T) {
	v := evalOf(t, example())
	for level, step := range []int64{5, 1101} {
		row := example().Q[:level+1]
		got, err := v.AddText(parts(lifted(row, 1, 1), lifted(row, 3), lifted(row, 4)), []uint64{0, 1, 16, 8, 9, 2, 15, 0})
		right(t, "AddText", got, err, parts(lifted(row, 1, 1+step, -step, 8*step, -8*step, 2*step, -2*step, 0), lifted(row, 3), lifted(row, 4)))
	}
}

// The text is 8 - X: times 3 X^7 it is 24 X^7 + 3, as X^8 is -1.
func TestMulTextByHand(t *testing.T) {
	v := evalOf(t, example())
	for level := range 2 {
		row := example().Q[:level+1]
		got, err := v.MulText(parts(lifted(row, 1000, 1), lifted(row, 0, 0, 0, 0, 0, 0, 0, 3), lifted(row, -1)), []uint64{8, 16, 0, 0, 0, 0, 0, 0})
		right(t, "MulText", got, err, parts(lifted(row, 8000, -992, -1), lifted(row, 3, 0, 0, 0, 0, 0, 0, 24), lifted(row, -8, 1)))
	}
}

// 17 times 1000000, 3000000, 2000000 and 6000000 by 18721 are 908.1, 2724.2, 1816.1 and 5448.4.
func TestMulByHand(t *testing.T) {
	v, row := evalOf(t, example()), example().Q
	a := parts(lifted(row, 1000), lifted(row, 0, 2000))
	b := parts(lifted(row, 1000), lifted(row, 3000))
	got, err := v.Mul(a, b)
	right(t, "Mul", got, err, parts(lifted(row, 908), lifted(row, 2724, 1816), lifted(row, 0, 5448)))
	// What is rounded is a sum: 17 times 400 is 0.36 of the modulus, 17 times 800 is 0.73 of it.
	a, b = parts(lifted(row, 20), lifted(row, 20)), parts(lifted(row, 20), lifted(row, 20))
	got, err = v.Mul(a, b)
	right(t, "Mul of small ones", got, err, parts(lifted(row), lifted(row, 1), lifted(row)))
}

// 100 is 3 modulo 97 and -93 modulo 193.
func TestRelinByHand(t *testing.T) {
	v, row := evalOf(t, example()), example().Q
	k := api.Switch{
		B: []api.Poly{lifted(row, 10), lifted(row, 0, 1)},
		A: []api.Poly{lifted(row, 1), lifted(row, 2)},
	}
	got, err := v.Relin(parts(lifted(row, 7), lifted(row, 8), lifted(row, 100)), k)
	right(t, "Relin", got, err, parts(lifted(row, 7+30, -93), lifted(row, 8+3-186)))
	low := row[:1]
	got, err = v.Relin(parts(lifted(low, 7), lifted(low, 8), lifted(low, 100)), k)
	right(t, "Relin of level 0", got, err, parts(lifted(low, 7+30), lifted(low, 8+3)))
}

// By a step of 1 X^3 stands for X: 100 X is 100 X^3, and X^3 is X^9, which is -X.
func TestTurnByHand(t *testing.T) {
	v, row := evalOf(t, example()), example().Q
	k := api.Switch{
		B: []api.Poly{lifted(row, 10), lifted(row, 0, 1)},
		A: []api.Poly{lifted(row, 1), lifted(row, 2)},
	}
	got, err := v.Turn(parts(lifted(row, 7, 0, 0, 5), lifted(row, 0, 100)), 1, k)
	right(t, "Turn", got, err, parts(lifted(row, 7, -5, 0, 30, -93), lifted(row, 0, 0, 0, 3-186)))
	// By a step of -1, which is one of 3, it is X^11: 100 X is 100 X^11, which is -100 X^3.
	got, err = v.Turn(parts(lifted(row), lifted(row, 0, 100)), -1, k)
	right(t, "Turn back", got, err, parts(lifted(row, 0, 0, 0, -30, 93), lifted(row, 0, 0, 0, -3+186)))
}

// By 193: 96 is less than half of it, 97 more.
func TestLowerByHand(t *testing.T) {
	v, row := evalOf(t, example()), example().Q
	got, err := v.Lower(parts(lifted(row, 96, 97, -96, -97, 9360), lifted(row, 193, 290), lifted(row, -9360)))
	right(t, "Lower", got, err, parts(lifted(row[:1], 0, 1, 0, -1, 48), lifted(row[:1], 1, 2), lifted(row[:1], -48)))
}

// The examples of the chapter.

func TestAddOfUnlikeLevels(t *testing.T) {
	v, x := evalOf(t, example()), &mixer{}
	if c, err := v.Add(x.cipher(example(), 2, 0), x.cipher(example(), 2, 1)); err != api.ErrLevel || len(c.C) != 0 {
		t.Error(c, err)
	}
}

func TestMulOfThreeParts(t *testing.T) {
	v, x := evalOf(t, example()), &mixer{}
	if c, err := v.Mul(x.cipher(example(), 3, 1), x.cipher(example(), 2, 1)); err != api.ErrShape || len(c.C) != 0 {
		t.Error(c, err)
	}
}
