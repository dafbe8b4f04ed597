package interval_test

import (
	"math"
	"slices"
	"testing"

	"arras/api"
	"arras/interval"
)

const most = api.MaxValue

func input(lo, hi int, shape ...int) api.Node {
	return api.Node{Kind: api.KindInput, Shape: shape, Lo: lo, Hi: hi}
}

func constant(shape []int, numbers ...int) api.Node {
	return api.Node{Kind: api.KindConst, Shape: shape, Data: numbers}
}

func dense(a int, bias, weights []int) api.Node {
	return api.Node{Kind: api.KindDense, A: a, Data: weights, Bias: bias}
}

func conv(a int, shape, bias, weights []int) api.Node {
	return api.Node{Kind: api.KindConv, A: a, Shape: shape, Data: weights, Bias: bias}
}

func pool(a, size int) api.Node { return api.Node{Kind: api.KindPool, A: a, Size: size} }

func add(a, b int) api.Node { return api.Node{Kind: api.KindAdd, A: a, B: b} }

func scaled(a, by int) api.Node { return api.Node{Kind: api.KindScale, A: a, Data: []int{by}} }

func power(a, c, b, square int) api.Node {
	return api.Node{Kind: api.KindPower, A: a, Data: []int{c, b, square}}
}

func flat(a int, shape ...int) api.Node { return api.Node{Kind: api.KindFlat, A: a, Shape: shape} }

// of is a graph of nodes; the last one comes out.
func of(nodes ...api.Node) api.Graph { return api.Graph{Nodes: nodes, Out: len(nodes) - 1} }

// tells holds the numbers that come out against those worked out by hand.
func tells(t *testing.T, g api.Graph, inputs [][]int, want ...int) {
	t.Helper()
	if got, err := interval.Run(g, inputs); err != api.OK || !slices.Equal(got, want) {
		t.Errorf("%v %v, want %v: %+v of %v", got, err, want, g, inputs)
	}
}

// lies holds the last span against that worked out by hand.
func lies(t *testing.T, g api.Graph, lo, hi int) {
	t.Helper()
	spans, err := interval.Spans(g)
	if err != api.OK || len(spans) != len(g.Nodes) || spans[len(spans)-1] != (api.Span{Lo: lo, Hi: hi}) {
		t.Errorf("%v %v, want %d to %d: %+v", spans, err, lo, hi, g)
	}
}

// The chapter's examples, and those of the whole.
func TestExamples(t *testing.T) {
	g := of(input(-2, 3, 1), power(0, 1, 0, 1))
	lies(t, g, 1, 10)
	tells(t, g, [][]int{{-2}}, 5)
	tells(t, of(constant([]int{1}, 2), scaled(0, 3)), nil, 6)
}

// Each kind, worked out by hand.
func TestNumbersByHand(t *testing.T) {
	rows := [][]int{{1, 2, 3, 4, 5, 6}}
	tells(t, of(input(0, 9, 6)), rows, 1, 2, 3, 4, 5, 6)
	tells(t, of(constant([]int{2, 2}, 1, -2, 3, -4)), nil, 1, -2, 3, -4)
	tells(t, of(input(0, 9, 6), dense(0, []int{100, 200}, []int{1, 1, 1, 1, 1, 1, 1, -1, 1, -1, 1, -2})), rows, 121, 191)
	tells(t, of(input(0, 9, 2, 3), dense(0, []int{0}, []int{1, 10, 100, 1000, 10000, 100000})), rows, 654321)
	tells(t, of(input(0, 9, 1, 2, 3), conv(0, []int{1, 1, 1, 2}, []int{1000}, []int{10, 1})), rows, 1012, 1023, 1045, 1056)
	tells(t, of(input(0, 9, 1, 2, 3), conv(0, []int{1, 1, 2, 1}, []int{-1}, []int{10, 1})), rows, 13, 24, 35)
	tells(t, of(input(0, 9, 1, 3, 2), conv(0, []int{2, 1, 2, 2}, []int{0, 5}, []int{1000, 100, 10, 1, 0, 0, 0, 1})), rows, 1234, 3456, 9, 11)
	tells(t, of(input(0, 9, 2, 1, 3), conv(0, []int{2, 2, 1, 1}, []int{7, 0}, []int{1, 10, -1, 1})), rows, 48, 59, 70, 3, 3, 3)
	tells(t, of(input(0, 9, 1, 2, 2), pool(0, 2)), [][]int{{1, 2, 3, 4}}, 10)
	tells(t, of(input(0, 9, 1, 2, 4), pool(0, 2)), [][]int{{1, 2, 3, 4, 5, 6, 7, 8}}, 14, 22)
	tells(t, of(input(0, 9, 1, 4, 2), pool(0, 2)), [][]int{{1, 2, 3, 4, 5, 6, 7, 8}}, 10, 26)
	tells(t, of(input(0, 9, 2, 2, 2), pool(0, 2)), [][]int{{1, 2, 3, 4, 5, 6, 7, 8}}, 10, 26)
	tells(t, of(input(0, 9, 2, 1, 3), pool(0, 1)), rows, 1, 2, 3, 4, 5, 6)
	tells(t, of(input(0, 9, 2), input(-9, 9, 2), add(0, 1), add(2, 0), add(3, 3)), [][]int{{1, 2}, {-5, 9}}, -6, 26)
	tells(t, of(input(0, 9, 6), scaled(0, -3)), rows, -3, -6, -9, -12, -15, -18)
	tells(t, of(input(-9, 9, 3), power(0, 1, 10, 100)), [][]int{{0, -1, 2}}, 1, 91, 421)
	tells(t, of(input(0, 9, 2, 3), flat(0, 6), flat(1, 3, 1, 2)), rows, 1, 2, 3, 4, 5, 6)
	tells(t, api.Graph{Nodes: []api.Node{input(0, 9, 1), scaled(0, 2), input(0, 9, 1), add(1, 2)}, Out: 1}, [][]int{{3}, {4}}, 6)
	tells(t, api.Graph{Nodes: []api.Node{input(0, 9, 1), scaled(0, 2), input(0, 9, 1), add(1, 2)}, Out: 2}, [][]int{{3}, {4}}, 4)
}

func TestSpansByHand(t *testing.T) {
	lies(t, of(input(-7, 5, 2)), -7, 5)
	lies(t, of(input(4, 4, 2)), 4, 4)
	lies(t, of(constant([]int{3}, 4, -2, 3)), -2, 4)
	lies(t, of(constant([]int{1}, 4)), 4, 4)
	lies(t, of(input(-2, 3, 2), dense(0, []int{1, 10}, []int{1, -1, 2, 0})), -4, 16)
	lies(t, of(input(2, 3, 2), dense(0, []int{0}, []int{5, -7})), -11, 1)
	lies(t, of(input(-3, -1, 3), dense(0, []int{0, 0}, []int{0, 0, 0, 0, 0, 0})), 0, 0)
	lies(t, of(input(-2, 3, 1, 2, 2), conv(0, []int{1, 1, 1, 2}, []int{2}, []int{1, -1})), -3, 7)
	lies(t, of(input(-2, 3, 1, 2, 2), conv(0, []int{2, 1, 2, 2}, []int{-100, 100}, []int{1, 1, 1, 1, -1, -1, -1, -1})), -108, 108)
	lies(t, of(input(-2, 3, 1, 2, 2), pool(0, 2)), -8, 12)
	lies(t, of(input(-2, 3, 1, 2, 2), pool(0, 1)), -2, 3)
	lies(t, of(input(-2, 3, 2), input(10, 20, 2), add(0, 1)), 8, 23)
	lies(t, of(input(-2, 3, 2), scaled(0, -1), add(0, 1)), -5, 5)
	lies(t, of(input(-2, 3, 2), add(0, 0)), -4, 6)
	lies(t, of(input(-2, 3, 2), scaled(0, -5)), -15, 10)
	lies(t, of(input(-2, 3, 2), scaled(0, 0)), 0, 0)
	lies(t, of(input(-2, 3, 2, 1), flat(0, 2)), -2, 3)
	lies(t, of(input(-2, 3, 2), power(0, 0, 0, 1), power(1, 0, 0, -1)), -81, 0)
}

// The turning point stands within, at an end, next to one and outside, at whole numbers and between two of them.
func TestPowerTurns(t *testing.T) {
	for a := -4; a <= 4; a++ {
		for b := -25; b <= 25; b++ {
			for lo := -5; lo <= 5; lo++ {
				for hi := lo; hi <= lo+6; hi++ {
					want := tried(api.Span{Lo: lo, Hi: hi}, func(v int) int { return a*v*v + b*v + 7 })
					lies(t, of(input(lo, hi, 1), power(0, 7, b, a)), want.Lo, want.Hi)
				}
			}
		}
	}
	for _, ends := range [][2]int{{-most, most}, {-most, -most + 1}, {most - 1, most}, {-most, 0}, {0, most}, {-1000, 1000}, {499, 2000}, {501, 2000}, {-2000, 499}} {
		for _, square := range []int{-1, 0, 1, -3, 2} {
			for _, b := range []int{0, 1, -1, most, -most, most - 1, 999, -1000, -1001} {
				p := plainOf(of(input(ends[0], ends[1], 1), power(0, -5, b, square)))
				want, wantErr := p.spans()
				if got, err := interval.Spans(p.g); err != wantErr || !slices.Equal(got, want) {
					t.Error(ends, square, b, got, err, want, wantErr)
				}
			}
		}
	}
}

// The least number may be that of one whole number alone, far from both ends.
func TestPowerTurnsFar(t *testing.T) {
	lies(t, of(input(-1000, 1000, 1), power(0, 0, 1, 1)), 0, 1001000)
	lies(t, of(input(-1000, 1000, 1), power(0, 0, -3, 1)), -2, 1003000)
	lies(t, of(input(-1000, 1000, 1), power(0, 0, 5, -1)), -1005000, 6)
	lies(t, of(input(-1000, 1000, 1), power(0, 0, -5, -1)), -1005000, 6)
	lies(t, of(input(-700, 700, 1), power(0, 0, 7, 2)), -6, 984900)
	lies(t, of(input(-1024, 1024, 1), power(0, 0, 0, 1)), 0, most)
	lies(t, of(input(-1024, 1024, 1), power(0, 0, 0, -1)), -most, 0)
	lies(t, of(input(0, 1025, 1), power(0, 0, -1025, 1)), -262656, 0)
}

func TestMost(t *testing.T) {
	for _, x := range []struct {
		spans []api.Span
		want  int
	}{
		{nil, 0},
		{[]api.Span{}, 0},
		{[]api.Span{{}}, 0},
		{[]api.Span{{Lo: 1, Hi: 2}}, 2},
		{[]api.Span{{Lo: -3, Hi: 2}}, 3},
		{[]api.Span{{Lo: -3, Hi: -2}}, 3},
		{[]api.Span{{Lo: -7, Hi: 7}}, 7},
		{[]api.Span{{Lo: -1, Hi: 1}, {Lo: -9, Hi: 8}, {Lo: 0, Hi: 5}}, 9},
		{[]api.Span{{Lo: -1, Hi: 1}, {Lo: -8, Hi: 9}, {Lo: 0, Hi: 5}}, 9},
		{[]api.Span{{Lo: 1, Hi: 30}, {Lo: -8, Hi: 9}}, 30},
		{[]api.Span{{Lo: 1, Hi: 3}, {Lo: -80, Hi: 9}}, 80},
		{[]api.Span{{Lo: -most, Hi: most}}, most},
		// No graph has these.
		{[]api.Span{{Lo: 4, Hi: 3}}, 4},
		{[]api.Span{{Lo: 4, Hi: -5}}, 5},
		{[]api.Span{{Lo: math.MinInt + 1, Hi: 3}}, math.MaxInt},
		{[]api.Span{{Lo: 3, Hi: math.MaxInt}}, math.MaxInt},
		{[]api.Span{{Lo: math.MinInt + 2, Hi: 3}}, math.MaxInt - 1},
		// The least number's size is no number: the greatest one is told.
		{[]api.Span{{Lo: math.MinInt, Hi: 3}}, math.MaxInt},
		{[]api.Span{{Lo: 3, Hi: math.MinInt}}, math.MaxInt},
	} {
		if got := interval.Most(x.spans); got != x.want {
			t.Error(x.spans, got, x.want)
		}
	}
}

// As many nodes as may be.
func TestManyNodes(t *testing.T) {
	g := of(input(-1, 1, 1))
	for node := range api.MaxNodes - 1 {
		g.Nodes = append(g.Nodes, one(&mixer{state: uint64(node)}, add(node, 0), power(node, 1, 1, 0)))
	}
	for out := range g.Nodes {
		g.Out = out
		tells(t, g, [][]int{{1}}, out+1)
		tells(t, g, [][]int{{0}}, plainOf(g).numbers([][]int{{0}})[out]...)
	}
}

// Tensors of as many entries as may be.
func TestManyEntries(t *testing.T) {
	x := &mixer{state: 9}
	weights := make([]int, 64*64)
	for i := range weights {
		weights[i] = x.from(-9, 9)
	}
	for _, g := range []api.Graph{
		of(input(-3, 3, 64), dense(0, weights[:64], weights), flat(1, 4, 4, 4), pool(2, 2), pool(2, 4), pool(2, 1)),
		of(input(-3, 3, 1, 8, 8), conv(0, []int{1, 1, 3, 3}, []int{5}, weights[:9]), pool(1, 2), conv(0, []int{1, 1, 8, 8}, []int{5}, weights[:64]), conv(0, []int{64, 1, 8, 8}, weights[:64], weights), conv(0, []int{1, 1, 1, 1}, []int{7}, []int{-3}), pool(0, 4)),
		of(input(-3, 3, 4, 4, 4), conv(0, []int{16, 4, 3, 3}, weights[:16], weights[:576]), conv(0, []int{4, 4, 1, 1}, weights[:4], weights[:16]), conv(0, []int{5, 4, 2, 1}, weights[:5], weights[:40]), add(0, 0), power(0, 1, 2, 3), scaled(0, 4)),
		of(input(-3, 3, 64, 1, 1), conv(0, []int{64, 64, 1, 1}, weights[64:128], weights), dense(1, []int{0}, weights[:64])),
		of(input(-3, 3, 1, 1, 64), conv(0, []int{1, 1, 1, 64}, []int{0}, weights[:64]), conv(0, []int{1, 1, 1, 1}, []int{0}, []int{3}), pool(0, 1)),
		of(input(-3, 3, 1, 64, 1), conv(0, []int{2, 1, 33, 1}, []int{0, 1}, weights[:66])),
		of(constant([]int{64}, weights[:64]...), constant([]int{8, 8}, weights[64:128]...), flat(1, 64), add(0, 2)),
	} {
		for range 20 {
			if isAsPlain(t, x, g) != api.OK {
				t.Error(g)
			}
		}
	}
}
