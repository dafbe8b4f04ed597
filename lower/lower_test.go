package lower_test

import (
	"slices"
	"testing"

	"arras/api"
	"arras/graph"
	"arras/lower"
	"arras/vector"
)

func list(numbers ...int) []int { return numbers }

func of(nodes ...api.Node) api.Graph { return api.Graph{Nodes: nodes, Out: len(nodes) - 1} }

func out(place int, nodes ...api.Node) api.Graph { return api.Graph{Nodes: nodes, Out: place} }

func input(lo, hi int, shape ...int) api.Node {
	return api.Node{Kind: api.KindInput, Shape: shape, Lo: lo, Hi: hi}
}

func constant(shape []int, data ...int) api.Node {
	return api.Node{Kind: api.KindConst, Shape: shape, Data: data}
}

func dense(a int, bias, weights []int) api.Node {
	return api.Node{Kind: api.KindDense, A: a, Bias: bias, Data: weights}
}

func conv(a int, shape, bias, weights []int) api.Node {
	return api.Node{Kind: api.KindConv, A: a, Shape: shape, Bias: bias, Data: weights}
}

func pool(a, size int) api.Node     { return api.Node{Kind: api.KindPool, A: a, Size: size} }
func sum(a, b int) api.Node         { return api.Node{Kind: api.KindAdd, A: a, B: b} }
func scaled(a, by int) api.Node     { return api.Node{Kind: api.KindScale, A: a, Data: list(by)} }
func power(a, c, b, s int) api.Node { return api.Node{Kind: api.KindPower, A: a, Data: list(c, b, s)} }
func flat(a int, shape ...int) api.Node {
	return api.Node{Kind: api.KindFlat, A: a, Shape: shape}
}

func in(k int) api.Instr          { return api.Instr{Op: api.OpInput, K: k} }
func konst(k int) api.Instr       { return api.Instr{Op: api.OpConst, K: k} }
func add(a, b int) api.Instr      { return api.Instr{Op: api.OpAdd, A: a, B: b} }
func mul(a, b int) api.Instr      { return api.Instr{Op: api.OpMul, A: a, B: b} }
func addPlain(a, k int) api.Instr { return api.Instr{Op: api.OpAddP, A: a, K: k} }
func mulPlain(a, k int) api.Instr { return api.Instr{Op: api.OpMulP, A: a, K: k} }
func turn(a, k int) api.Instr     { return api.Instr{Op: api.OpTurn, A: a, K: k} }

// code numbers instructions, each its place.
func code(row ...api.Instr) []api.Instr {
	for i := range row {
		row[i].To = i
	}
	return row
}

// made is a graph, and its program, worked out by hand.
type made struct {
	what string
	g    api.Graph
	o    api.Options
	v    api.Vectors
}

func byHand() []made {
	return slices.Concat(kindsByHand(), powersByHand(), rowsByHand(), flatsByHand(), tidyByHand())
}

// twos is an input of two entries from -2 to 3, as a program has it.
func twos() []api.Input { return []api.Input{{Lo: -2, Hi: 3, Slots: list(0, 1)}} }

func kindsByHand() []made {
	x := input(-2, 3, 2)
	return []made{
		{"an input", of(x), api.Options{}, api.Vectors{Slots: 4, Inputs: twos(), Code: code(in(0)), Out: list(0, 1)}},
		{"a constant", of(constant(list(3), 7, 0, -8)), api.Options{}, api.Vectors{Slots: 4, Plains: [][]int{{7, 0, -8, 0}}, Code: code(konst(0)), Out: list(0, 1, 2)}},
		{"a constant in slots apart", of(constant(list(2, 1, 3), 1, 2, 3, 4, 5, 6)), api.Options{Layout: 1}, api.Vectors{Slots: 8, Plains: [][]int{{1, 2, 3, 0, 4, 5, 6, 0}}, Code: code(konst(0)), Out: list(0, 1, 2, 4, 5, 6)}},
		{"two inputs", out(1, input(0, 1, 1), x, input(5, 5, 3), sum(0, 0)), api.Options{}, api.Vectors{Slots: 4,
			Inputs: []api.Input{{Lo: 0, Hi: 1, Slots: list(0)}, {Lo: -2, Hi: 3, Slots: list(0, 1)}, {Lo: 5, Hi: 5, Slots: list(0, 1, 2)}},
			Code:   code(in(0), in(1), in(2), add(0, 0)), Last: 1, Out: list(0, 1)}},
		{"inputs and constants", of(constant(list(1), 4), input(0, 1, 1), constant(list(1), 4), constant(list(1), 5), input(0, 2, 1), sum(4, 3), sum(5, 0)), api.Options{}, api.Vectors{Slots: 4,
			Inputs: []api.Input{{Lo: 0, Hi: 1, Slots: list(0)}, {Lo: 0, Hi: 2, Slots: list(0)}}, Plains: [][]int{{4, 0, 0, 0}, {5, 0, 0, 0}},
			Code: code(konst(0), in(0), konst(0), konst(1), in(1), add(4, 3), add(5, 0)), Last: 6, Out: list(0)}},
		{"a sum", of(x, constant(list(2), 7, 9), sum(1, 0)), api.Options{}, api.Vectors{Slots: 4, Inputs: twos(), Plains: [][]int{{7, 9, 0, 0}}, Code: code(in(0), konst(0), add(1, 0)), Last: 2, Out: list(0, 1)}},
		{"a scale", of(x, scaled(0, 3)), api.Options{}, api.Vectors{Slots: 4, Inputs: twos(), Plains: [][]int{{3, 3, 0, 0}}, Code: code(in(0), mulPlain(0, 0)), Last: 1, Out: list(0, 1)}},
		{"a scale by 1", of(x, scaled(0, 1)), api.Options{}, api.Vectors{Slots: 4, Inputs: twos(), Plains: [][]int{{1, 1, 0, 0}}, Code: code(in(0), mulPlain(0, 0)), Last: 1, Out: list(0, 1)}},
		{"a scale by 0, and one by 0 of other slots", of(x, input(0, 1, 3), scaled(0, 0), scaled(1, 0)), api.Options{}, api.Vectors{Slots: 4, Inputs: append(twos(), api.Input{Hi: 1, Slots: list(0, 1, 2)}), Plains: [][]int{{0, 0, 0, 0}}, Code: code(in(0), in(1), mulPlain(0, 0), mulPlain(1, 0)), Last: 3, Out: list(0, 1, 2)}},
		{"a plain of a constant again", of(constant(list(2), 3, 3), x, scaled(1, 3), scaled(0, 3), scaled(2, 4)), api.Options{}, api.Vectors{Slots: 4, Inputs: twos(), Plains: [][]int{{3, 3, 0, 0}, {4, 4, 0, 0}}, Code: code(konst(0), in(0), mulPlain(1, 0), mulPlain(0, 0), mulPlain(2, 1)), Last: 4, Out: list(0, 1)}},
		{"Out isn't the last one", out(1, x, scaled(0, 3), scaled(1, 3)), api.Options{}, api.Vectors{Slots: 4, Inputs: twos(), Plains: [][]int{{3, 3, 0, 0}}, Code: code(in(0), mulPlain(0, 0), mulPlain(1, 0)), Last: 1, Out: list(0, 1)}},
		{"what nobody asks about", of(x, scaled(0, 3)), api.Options{Lazy: true, Rows: -77}, api.Vectors{Slots: 4, Inputs: twos(), Plains: [][]int{{3, 3, 0, 0}}, Code: code(in(0), mulPlain(0, 0)), Last: 1, Out: list(0, 1)}},
	}
}

func powersByHand() []made {
	var all []made
	for _, h := range []struct {
		c, b, a int
		plains  [][]int
		code    []api.Instr
		last    int
	}{
		{0, 0, 0, [][]int{{0, 0, 0, 0}}, code(in(0), mulPlain(0, 0)), 1},
		{5, 0, 0, [][]int{{0, 0, 0, 0}, {5, 5, 0, 0}}, code(in(0), mulPlain(0, 0), addPlain(1, 1)), 2},
		{0, 1, 0, nil, code(in(0)), 0},
		{5, 1, 0, [][]int{{5, 5, 0, 0}}, code(in(0), addPlain(0, 0)), 1},
		{0, 2, 0, [][]int{{2, 2, 0, 0}}, code(in(0), mulPlain(0, 0)), 1},
		{0, -1, 0, [][]int{{-1, -1, 0, 0}}, code(in(0), mulPlain(0, 0)), 1},
		{1, 2, 0, [][]int{{2, 2, 0, 0}, {1, 1, 0, 0}}, code(in(0), mulPlain(0, 0), addPlain(1, 1)), 2},
		{0, 0, 1, nil, code(in(0), mul(0, 0)), 1},
		{1, 0, 1, [][]int{{1, 1, 0, 0}}, code(in(0), mul(0, 0), addPlain(1, 0)), 2},
		{0, 0, 2, [][]int{{2, 2, 0, 0}}, code(in(0), mul(0, 0), mulPlain(1, 0)), 2},
		{-1, 0, -1, [][]int{{-1, -1, 0, 0}}, code(in(0), mul(0, 0), mulPlain(1, 0), addPlain(2, 0)), 3},
		{0, 1, 1, nil, code(in(0), mul(0, 0), add(1, 0)), 2},
		{3, 1, 1, [][]int{{3, 3, 0, 0}}, code(in(0), mul(0, 0), add(1, 0), addPlain(2, 0)), 3},
		{0, 1, 2, [][]int{{2, 2, 0, 0}}, code(in(0), mul(0, 0), mulPlain(1, 0), add(2, 0)), 3},
		{0, 2, 1, [][]int{{2, 2, 0, 0}}, code(in(0), mul(0, 0), mulPlain(0, 0), add(1, 2)), 3},
		{3, 2, 1, [][]int{{2, 2, 0, 0}, {3, 3, 0, 0}}, code(in(0), mul(0, 0), mulPlain(0, 0), add(1, 2), addPlain(3, 1)), 4},
		{0, 3, 2, [][]int{{2, 2, 0, 0}, {3, 3, 0, 0}}, code(in(0), mul(0, 0), mulPlain(1, 0), mulPlain(0, 1), add(2, 3)), 4},
		{4, 3, 2, [][]int{{2, 2, 0, 0}, {3, 3, 0, 0}, {4, 4, 0, 0}}, code(in(0), mul(0, 0), mulPlain(1, 0), mulPlain(0, 1), add(2, 3), addPlain(4, 2)), 5},
		{2, 2, 2, [][]int{{2, 2, 0, 0}}, code(in(0), mul(0, 0), mulPlain(1, 0), mulPlain(0, 0), add(2, 3), addPlain(4, 0)), 5},
	} {
		v := api.Vectors{Slots: 4, Inputs: twos(), Plains: h.plains, Code: h.code, Last: h.last, Out: list(0, 1)}
		all = append(all, made{"a power", of(input(-2, 3, 2), power(0, h.c, h.b, h.a)), api.Options{}, v})
	}
	return all
}

func rowsByHand() []made {
	x, giant := input(-2, 3, 2), api.Options{Giant: true}
	square := list(1, 2, 3, 4)
	picture := []api.Input{{Lo: 0, Hi: 1, Slots: list(0, 1, 2, 3)}}
	return []made{
		{"the chapter's example", of(x, dense(0, list(0), list(5, 7))), api.Options{}, api.Vectors{Slots: 4, Inputs: twos(),
			Plains: [][]int{{5, 0, 0, 0}, {7, 0, 0, 0}}, Code: code(in(0), mulPlain(0, 0), turn(0, 1), mulPlain(2, 1), add(1, 3)), Last: 4, Out: list(0)}},
		{"by a giant step that isn't needed", of(x, dense(0, list(0), list(5, 7))), giant, api.Vectors{Slots: 4, Inputs: twos(),
			Plains: [][]int{{5, 0, 0, 0}, {7, 0, 0, 0}}, Code: code(in(0), mulPlain(0, 0), turn(0, 1), mulPlain(2, 1), add(1, 3)), Last: 4, Out: list(0)}},
		{"a bias", of(x, dense(0, list(9), list(5, 5))), api.Options{}, api.Vectors{Slots: 4, Inputs: twos(),
			Plains: [][]int{{5, 0, 0, 0}, {9, 0, 0, 0}}, Code: code(in(0), mulPlain(0, 0), turn(0, 1), mulPlain(2, 0), add(1, 3), addPlain(4, 1)), Last: 5, Out: list(0)}},
		{"no weight", of(x, dense(0, list(0, 0, 0), make([]int, 6))), api.Options{}, api.Vectors{Slots: 4, Inputs: twos(),
			Plains: [][]int{{0, 0, 0, 0}}, Code: code(in(0), mulPlain(0, 0)), Last: 1, Out: list(0, 1, 2)}},
		{"no weight, but a bias", of(x, dense(0, list(0, 0, -6), make([]int, 6))), giant, api.Vectors{Slots: 4, Inputs: twos(),
			Plains: [][]int{{0, 0, 0, 0}, {0, 0, -6, 0}}, Code: code(in(0), mulPlain(0, 0), addPlain(1, 1)), Last: 2, Out: list(0, 1, 2)}},
		{"turns alone", of(x, dense(0, list(0, 4), list(0, 8, 9, 0))), api.Options{}, api.Vectors{Slots: 4, Inputs: twos(),
			Plains: [][]int{{8, 0, 0, 0}, {0, 9, 0, 0}, {0, 4, 0, 0}}, Code: code(in(0), turn(0, 1), mulPlain(1, 0), turn(0, 3), mulPlain(3, 1), add(2, 4), addPlain(5, 2)), Last: 6, Out: list(0, 1)}},
		{"a square", of(x, dense(0, list(0, 0), square)), api.Options{}, api.Vectors{Slots: 4, Inputs: twos(),
			Plains: [][]int{{1, 4, 0, 0}, {2, 0, 0, 0}, {0, 3, 0, 0}},
			Code:   code(in(0), mulPlain(0, 0), turn(0, 1), mulPlain(2, 1), add(1, 3), turn(0, 3), mulPlain(5, 2), add(4, 6)), Last: 7, Out: list(0, 1)}},
		{"a square by giant steps", of(x, dense(0, list(0, 0), square)), giant, api.Vectors{Slots: 4, Inputs: twos(),
			Plains: [][]int{{1, 4, 0, 0}, {2, 0, 0, 0}, {0, 0, 0, 3}},
			Code:   code(in(0), mulPlain(0, 0), turn(0, 1), mulPlain(2, 1), add(1, 3), mulPlain(2, 2), turn(5, 2), add(4, 6)), Last: 7, Out: list(0, 1)}},
		{"turns are laid once for these rows, not for others", of(x, dense(0, list(0, 0), list(0, 1, 1, 0)), dense(0, list(0, 0), list(0, 1, 1, 0))), giant, api.Vectors{Slots: 4, Inputs: twos(),
			Plains: [][]int{{1, 0, 0, 0}, {0, 0, 0, 1}},
			Code:   code(in(0), turn(0, 1), mulPlain(1, 0), mulPlain(1, 1), turn(3, 2), add(2, 4), turn(0, 1), mulPlain(6, 0), mulPlain(6, 1), turn(8, 2), add(7, 9)), Last: 10, Out: list(0, 1)}},
		{"eight slots, by a giant step of 4 alone", of(input(0, 1, 6), dense(0, list(0), list(0, 0, 0, 0, 3, 5))), giant, api.Vectors{Slots: 8, Inputs: []api.Input{{Hi: 1, Slots: list(0, 1, 2, 3, 4, 5)}},
			Plains: [][]int{{0, 0, 0, 0, 3, 0, 0, 0}, {0, 0, 0, 0, 5, 0, 0, 0}},
			Code:   code(in(0), mulPlain(0, 0), turn(0, 1), mulPlain(2, 1), add(1, 3), turn(4, 4)), Last: 5, Out: list(0)}},
		{"a convolution", of(input(0, 1, 1, 2, 2), conv(0, list(2, 1, 1, 2), list(0, 7), list(1, -1, 2, 3))), api.Options{}, api.Vectors{Slots: 4, Inputs: picture,
			Plains: [][]int{{1, 0, 0, 3}, {-1, 1, 0, 0}, {0, -1, 2, 0}, {0, 0, 3, 2}, {0, 0, 7, 7}},
			Code:   code(in(0), mulPlain(0, 0), turn(0, 1), mulPlain(2, 1), add(1, 3), turn(0, 2), mulPlain(5, 2), add(4, 6), turn(0, 3), mulPlain(8, 3), add(7, 9), addPlain(10, 4)),
			Last:   11, Out: list(0, 1, 2, 3)}},
		{"a pool", of(input(0, 1, 1, 2, 2), pool(0, 2)), api.Options{}, api.Vectors{Slots: 4, Inputs: picture,
			Plains: [][]int{{1, 0, 0, 0}}, Code: code(in(0), mulPlain(0, 0), turn(0, 1), mulPlain(2, 0), add(1, 3), turn(0, 2), mulPlain(5, 0), add(4, 6), turn(0, 3), mulPlain(8, 0), add(7, 9)), Last: 10, Out: list(0)}},
		{"a pool by giant steps", of(input(0, 1, 1, 2, 2), pool(0, 2)), giant, api.Vectors{Slots: 4, Inputs: picture,
			Plains: [][]int{{1, 0, 0, 0}, {0, 0, 1, 0}}, Code: code(in(0), mulPlain(0, 0), turn(0, 1), mulPlain(2, 0), add(1, 3), mulPlain(0, 1), mulPlain(2, 1), add(5, 6), turn(7, 2), add(4, 8)), Last: 9, Out: list(0)}},
	}
}

func flatsByHand() []made {
	apart, giant := api.Options{Layout: 1}, api.Options{Layout: 1, Giant: true}
	sixApart := []api.Input{{Hi: 1, Slots: list(0, 1, 2, 4, 5, 6)}}
	six := []api.Input{{Hi: 1, Slots: list(0, 1, 2, 3, 4, 5)}}
	return []made{
		{"a flat of the same slots", of(input(0, 1, 2, 3), flat(0, 6), flat(1, 1, 6)), api.Options{}, api.Vectors{Slots: 8, Inputs: six, Code: code(in(0)), Out: list(0, 1, 2, 3, 4, 5)}},
		{"a flat of a picture, side by side", of(input(0, 1, 2, 3, 1), flat(0, 6)), api.Options{}, api.Vectors{Slots: 8, Inputs: six, Code: code(in(0)), Out: list(0, 1, 2, 3, 4, 5)}},
		{"a flat of the same slots apart", of(input(0, 1, 2, 3, 1), flat(0, 2, 1, 3), scaled(1, 2)), apart, api.Vectors{Slots: 8, Inputs: sixApart, Plains: [][]int{{2, 2, 2, 0, 2, 2, 2, 0}}, Code: code(in(0), mulPlain(0, 0)), Last: 1, Out: list(0, 1, 2, 4, 5, 6)}},
		{"a flat of other slots", of(input(0, 1, 2, 3, 1), flat(0, 6)), apart, api.Vectors{Slots: 8, Inputs: sixApart,
			Plains: [][]int{{1, 1, 1, 0, 0, 0, 0, 0}, {0, 0, 0, 1, 1, 1, 0, 0}}, Code: code(in(0), mulPlain(0, 0), turn(0, 1), mulPlain(2, 1), add(1, 3)), Last: 4, Out: list(0, 1, 2, 3, 4, 5)}},
		{"and back", of(input(0, 1, 6), flat(0, 2, 1, 3)), apart, api.Vectors{Slots: 8, Inputs: six,
			Plains: [][]int{{1, 1, 1, 0, 0, 0, 0, 0}, {0, 0, 0, 0, 1, 1, 1, 0}}, Code: code(in(0), mulPlain(0, 0), turn(0, 7), mulPlain(2, 1), add(1, 3)), Last: 4, Out: list(0, 1, 2, 4, 5, 6)}},
		{"and back by giant steps", of(input(0, 1, 6), flat(0, 2, 1, 3)), giant, api.Vectors{Slots: 8, Inputs: six,
			Plains: [][]int{{1, 1, 1, 0, 0, 0, 0, 0}}, Code: code(in(0), mulPlain(0, 0), turn(0, 3), mulPlain(2, 0), turn(3, 4), add(1, 4)), Last: 5, Out: list(0, 1, 2, 4, 5, 6)}},
	}
}

func tidyByHand() []made {
	nodes := []api.Node{constant(list(2), 1, 2), scaled(0, 3), input(-2, 3, 2), sum(1, 2), scaled(2, 9)}
	return []made{
		{"untidied", out(3, nodes...), api.Options{}, api.Vectors{Slots: 4, Inputs: twos(),
			Plains: [][]int{{1, 2, 0, 0}, {3, 3, 0, 0}, {9, 9, 0, 0}}, Code: code(konst(0), mulPlain(0, 1), in(0), add(1, 2), mulPlain(2, 2)), Last: 3, Out: list(0, 1)}},
		{"tidied", out(3, nodes...), api.Options{Tidy: true}, api.Vectors{Slots: 4, Inputs: twos(),
			Plains: [][]int{{3, 6, 0, 0}}, Code: code(konst(0), in(0), add(0, 1)), Last: 2, Out: list(0, 1)}},
		{"tidied to a constant", out(1, nodes...), api.Options{Tidy: true}, api.Vectors{Slots: 4, Inputs: twos(),
			Plains: [][]int{{3, 6, 0, 0}}, Code: code(konst(0), in(0)), Last: 0, Out: list(0, 1)}},
		{"tidied twins", of(input(-2, 3, 2), scaled(0, 3), scaled(0, 3), sum(1, 2)), api.Options{Tidy: true}, api.Vectors{Slots: 4, Inputs: twos(),
			Plains: [][]int{{3, 3, 0, 0}}, Code: code(in(0), mulPlain(0, 0), add(1, 1)), Last: 2, Out: list(0, 1)}},
	}
}

func TestByHand(t *testing.T) {
	for _, h := range byHand() {
		if v, err := lower.Lower(h.g, h.o, h.v.Slots); err != api.OK || !sameProgram(v, h.v) {
			t.Errorf("%s: %+v %v, want %+v", h.what, v, err, h.v)
		}
	}
}

// The chapter's example, with all slots.
func TestExample(t *testing.T) {
	v, err := lower.Lower(of(input(-2, 3, 2), dense(0, list(0), list(5, 7))), api.Options{}, 4)
	var ops []int
	for _, n := range v.Code {
		ops = append(ops, n.Op)
	}
	want := list(api.OpInput, api.OpMulP, api.OpTurn, api.OpMulP, api.OpAdd)
	if err != api.OK || !slices.Equal(ops, want) || !sameLists(v.Plains, [][]int{{5, 0, 0, 0}, {7, 0, 0, 0}}) || v.Code[2].K != 1 {
		t.Errorf("%+v %v", v, err)
	}
}

// The examples of the whole: what a power tells, and what is tidied to a constant.
func TestExamplesOfTheWhole(t *testing.T) {
	v, err := lower.Lower(of(input(-2, 3, 1), power(0, 1, 0, 1)), api.Options{}, 4)
	values, errRun := vector.Run(v, [][]int{{-2}}, 97)
	if err != api.OK || errRun != api.OK || !slices.Equal(values[v.Last], list(5, 0, 0, 0)) {
		t.Error(values, err, errRun)
	}
	v, err = lower.Lower(of(constant(list(1), 2), scaled(0, 3)), api.Options{Tidy: true}, 4)
	if err != api.OK || !slices.Equal(v.Code, code(konst(0))) || !sameLists(v.Plains, [][]int{{6, 0, 0, 0}}) {
		t.Errorf("%+v %v", v, err)
	}
}

// allSlots are all numbers of slots that may be.
func allSlots() []int { return list(4, 8, 16, 32, 64, 128, 256, 512, 1024, 2048) }

// All that is by hand, in few slots and in many, by all options.
func TestInAllSlots(t *testing.T) {
	told := map[api.Errno]int{}
	for _, h := range byHand() {
		for _, slots := range list(4, 8, 16, 32, 64, 128, 256, 2048) {
			for _, o := range mixtures() {
				_, err := isAsJudged(t, h.g, o, slots)
				told[err]++
			}
		}
	}
	if told[api.OK] < 3000 || told[api.ErrFit] < 10 {
		t.Error("too few tries", told)
	}
}

// Of all numbers that a Power may have, from -2 to 2.
func TestAllPowers(t *testing.T) {
	for c := -2; c <= 2; c++ {
		for b := -2; b <= 2; b++ {
			for a := -2; a <= 2; a++ {
				for _, o := range mixtures() {
					g := of(input(-2, 3, 2), power(0, c, b, a), power(1, a, c, b), sum(1, 2))
					if _, err := isAsJudged(t, g, o, 8); err != api.OK {
						t.Error(c, b, a, err)
					}
				}
			}
		}
	}
}

// pictures are all shapes of three numbers of a few entries.
func pictures(most int) [][]int {
	var all [][]int
	for a := 1; a <= most; a++ {
		for b := 1; a*b <= most; b++ {
			for c := 1; a*b*c <= most; c++ {
				all = append(all, list(a, b, c))
			}
		}
	}
	return all
}

// From each shape of a few entries to each other of as many: only where slots are others something is laid.
func TestAllFlats(t *testing.T) {
	told := map[bool]int{}
	shapes := append(pictures(12), list(12), list(3, 4), list(7), list(1), list(2, 2))
	for _, from := range shapes {
		for _, to := range shapes {
			g := of(input(0, 1, from...), flat(0, to...))
			if graph.Entries(from) != graph.Entries(to) {
				continue
			}
			for _, o := range mixtures() {
				v, err := isAsJudged(t, g, o, 64)
				if err != api.OK {
					t.Error(from, to, err)
				}
				told[len(v.Code) > 1]++
			}
		}
	}
	if told[true] < 500 || told[false] < 2000 {
		t.Error("too few tries", told)
	}
}

// Kernels and squares of every size that fits a picture of a few entries.
func TestAllWindows(t *testing.T) {
	count := 0
	for _, shape := range pictures(10) {
		var nodes []api.Node
		for high := 1; high <= shape[1]; high++ {
			for wide := 1; wide <= shape[2]; wide++ {
				kernel := list(2, shape[0], high, wide)
				nodes = append(nodes, conv(0, kernel, list(0, 5), numbered(2*shape[0]*high*wide)))
			}
			if shape[1]%high == 0 && shape[2]%high == 0 {
				nodes = append(nodes, pool(0, high))
			}
		}
		for _, n := range nodes {
			for _, o := range mixtures() {
				if _, err := isAsJudged(t, of(input(0, 1, shape...), n), o, 32); err != api.OK {
					t.Error(shape, n, err)
				}
				count++
			}
		}
	}
	if count < 1000 {
		t.Error("too few tries", count)
	}
}

// numbered has unlike numbers.
func numbered(count int) []int {
	row := make([]int, count)
	for i := range row {
		row[i] = i - 2
	}
	return row
}

// Lists that are empty may be nil or not.
func TestEmptyListsAreAlike(t *testing.T) {
	for _, h := range byHand() {
		g := h.g
		g.Nodes = slices.Clone(g.Nodes)
		for i := range g.Nodes {
			n := &g.Nodes[i]
			for _, row := range []*[]int{&n.Shape, &n.Data, &n.Bias} {
				if len(*row) == 0 {
					*row = []int{}
				}
			}
		}
		if v, err := lower.Lower(g, h.o, h.v.Slots); err != api.OK || !sameProgram(v, h.v) {
			t.Errorf("%s: %+v %v", h.what, v, err)
		}
	}
}
