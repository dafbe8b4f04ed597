package graph_test

import (
	"math"
	"slices"
	"testing"

	"arras/api"
	"arras/graph"
)

// made is a graph that may be, and its shapes, worked out by hand.
type made struct {
	what   string
	g      api.Graph
	shapes [][]int
}

func input(shape ...int) api.Node {
	return api.Node{Kind: api.KindInput, Shape: shape, Lo: -2, Hi: 3}
}

func constant(v int, shape ...int) api.Node {
	return api.Node{Kind: api.KindConst, Shape: shape, Data: slices.Repeat([]int{v}, entriesOf(shape))}
}

func dense(a, rows, columns int) api.Node {
	return api.Node{Kind: api.KindDense, A: a, Data: slices.Repeat([]int{1}, rows*columns), Bias: make([]int, rows)}
}

func conv(a int, shape ...int) api.Node {
	return api.Node{Kind: api.KindConv, A: a, Shape: shape, Data: slices.Repeat([]int{-1}, entriesOf(shape)), Bias: slices.Repeat([]int{2}, shape[0])}
}

func pool(a, size int) api.Node { return api.Node{Kind: api.KindPool, A: a, Size: size} }

func add(a, b int) api.Node { return api.Node{Kind: api.KindAdd, A: a, B: b} }

func scaled(a, by int) api.Node { return api.Node{Kind: api.KindScale, A: a, Data: []int{by}} }

func power(a int, numbers ...int) api.Node {
	return api.Node{Kind: api.KindPower, A: a, Data: numbers}
}

func flat(a int, shape ...int) api.Node { return api.Node{Kind: api.KindFlat, A: a, Shape: shape} }

// of is a graph of nodes; the last one comes out.
func of(nodes ...api.Node) api.Graph { return api.Graph{Nodes: nodes, Out: len(nodes) - 1} }

func handMade() []made {
	return []made{
		{"an input", of(input(2)), [][]int{{2}}},
		{"one entry", of(input(1)), [][]int{{1}}},
		{"MaxEntries", of(input(64), input(8, 8), input(4, 4, 4), constant(1, 64), constant(1, 1, 1, 64), constant(1, 64, 1)), [][]int{{64}, {8, 8}, {4, 4, 4}, {64}, {1, 1, 64}, {64, 1}}},
		{"a constant", of(constant(5, 2, 3)), [][]int{{2, 3}}},
		{"two layers", of(input(3), dense(0, 2, 3), power(1, 0, 0, 1), dense(2, 4, 2)), [][]int{{3}, {2}, {2}, {4}}},
		{"many rows", of(input(64), dense(0, 64, 64), dense(1, 1, 64), dense(2, 64, 1)), [][]int{{64}, {64}, {1}, {64}}},
		{"dense of shapes", of(input(2, 3), dense(0, 1, 6), input(2, 2, 2), dense(2, 3, 8)), [][]int{{2, 3}, {1}, {2, 2, 2}, {3}}},
		{"a picture", of(input(1, 2, 2), conv(0, 1, 1, 1, 2), power(1, 1, 0, 1)), [][]int{{1, 2, 2}, {1, 2, 1}, {1, 2, 1}}},
		{"a kernel for each channel", of(input(2, 4, 5), conv(0, 3, 2, 2, 3)), [][]int{{2, 4, 5}, {3, 3, 3}}},
		{"a kernel as great as the picture", of(input(2, 4, 5), conv(0, 64, 2, 4, 5)), [][]int{{2, 4, 5}, {64, 1, 1}}},
		{"a kernel of one weight", of(input(1, 2, 2), conv(0, 16, 1, 1, 1)), [][]int{{1, 2, 2}, {16, 2, 2}}},
		{"long kernels", of(input(1, 1, 64), conv(0, 64, 1, 1, 64), input(1, 64, 1), conv(2, 1, 1, 1, 1), conv(2, 32, 1, 63, 1), input(64, 1, 1), conv(5, 64, 64, 1, 1)), [][]int{{1, 1, 64}, {64, 1, 1}, {1, 64, 1}, {1, 64, 1}, {32, 2, 1}, {64, 1, 1}, {64, 1, 1}}},
		{"squares", of(input(2, 4, 6), pool(0, 2), pool(1, 1), input(1, 8, 8), pool(3, 8), pool(3, 4), pool(3, 2)), [][]int{{2, 4, 6}, {2, 2, 3}, {2, 2, 3}, {1, 8, 8}, {1, 1, 1}, {1, 2, 2}, {1, 4, 4}}},
		{"sums", of(input(2, 3), constant(4, 2, 3), add(0, 1), add(2, 2), add(1, 0)), [][]int{{2, 3}, {2, 3}, {2, 3}, {2, 3}, {2, 3}}},
		{"as A is", of(input(2, 1, 3), scaled(0, 5), power(1, 1, 2, 3), flat(2, 6), flat(3, 3, 2), scaled(4, 0), power(3, 0, 0, 0)), [][]int{{2, 1, 3}, {2, 1, 3}, {2, 1, 3}, {6}, {3, 2}, {3, 2}, {6}}},
		{"another Out", api.Graph{Nodes: []api.Node{input(2), dense(0, 1, 2), input(3)}}, [][]int{{2}, {1}, {3}}},
	}
}

func TestShapes(t *testing.T) {
	for _, h := range handMade() {
		if shapes, err := graph.Check(h.g); err != api.OK || !sameShapes(shapes, h.shapes) {
			t.Error(h.what, shapes, err)
		}
	}
}

// The chapter's examples.
func TestExamples(t *testing.T) {
	g := api.Graph{Nodes: []api.Node{{Kind: 1, Shape: []int{2}, Lo: 0, Hi: 1}}, Out: 0}
	if shapes, err := graph.Check(g); err != api.OK || !sameShapes(shapes, [][]int{{2}}) {
		t.Error(shapes, err)
	}
	if got := graph.Entries([]int{2, 3}); got != 6 {
		t.Error(got)
	}
	if got := graph.Entries([]int{0}); got != 0 {
		t.Error(got)
	}
}

func TestEntries(t *testing.T) {
	for a := -1; a <= 66; a++ {
		isEntries(t, a)
		for b := -1; b <= 66; b++ {
			isEntries(t, a, b)
			for _, c := range []int{-1, 0, 1, 2, 3, 4, 5, 7, 8, 16, 21, 32, 33, 63, 64, 65} {
				isEntries(t, a, b, c)
				isEntries(t, c, a, b)
			}
		}
	}
	isEntries(t)
	if got := graph.Entries(nil); got != 0 {
		t.Error(got)
	}
	for _, shape := range [][]int{{1, 1, 1, 1}, {2, 2, 2, 2}, {1, 1, 1, 1, 1}, make([]int, 1000)} {
		isEntries(t, shape...)
	}
	// Products that come to a small number again, modulo 2^64 or 2^32.
	far := []int{1, 2, -1, 0, 8, 1 << 16, 1 << 21, 1 << 31, 1 << 32, 1<<32 + 1, 1 << 33, 1 << 43, 1 << 61, 1 << 62, math.MaxInt, math.MinInt, math.MinInt + 1, -1 << 32, -1 << 31, 1 << 6, 1<<6 + 1, 3 << 62 / 3, 6148914691236517206, 3689348814741910324}
	for _, a := range far {
		isEntries(t, a)
		for _, b := range far {
			isEntries(t, a, b)
			for _, c := range far {
				isEntries(t, a, b, c)
				isEntries(t, a, b, c, 1)
			}
		}
	}
}

// isEntries asks for a shape's entries.
func isEntries(t *testing.T, shape ...int) {
	t.Helper()
	want := 0
	if isShape(shape) {
		want = entriesOf(shape)
	}
	if got := graph.Entries(shape); got != want {
		t.Error(shape, got, want)
	}
}

// As many nodes as may be, and each of them as Out.
func TestManyNodes(t *testing.T) {
	for count := 1; count <= api.MaxNodes; count++ {
		g := of(slices.Repeat([]api.Node{input(2, 2)}, count)...)
		for out := range count {
			g.Out = out
			if shapes, err := graph.Check(g); err != api.OK || len(shapes) != count {
				t.Error(count, out, shapes, err)
			}
		}
	}
}

// Numbers at both ends may be, and an input of one number.
func TestGreatNumbers(t *testing.T) {
	const most = api.MaxValue
	one := func(lo, hi int) api.Node { return api.Node{Kind: api.KindInput, Shape: []int{2}, Lo: lo, Hi: hi} }
	for _, g := range []api.Graph{
		of(one(-most, most)),
		of(one(most, most)),
		of(one(-most, -most)),
		of(one(0, 0)),
		of(one(3, 3)),
		of(constant(most, 2)),
		of(constant(-most, 64)),
		of(one(-1, 1), api.Node{Kind: api.KindDense, Data: []int{most, -most, -most, most}, Bias: []int{-most, most}}),
		of(input(1, 1, 2), api.Node{Kind: api.KindConv, Shape: []int{2, 1, 1, 1}, Data: []int{most, -most}, Bias: []int{-most, most}}),
		of(one(-1, 1), scaled(0, most), scaled(0, -most), power(0, most, -most, most), power(0, -most, most, -most)),
	} {
		if isAsJudged(t, "great", g) != api.OK {
			t.Error(g)
		}
	}
}

// Lists that are empty may be nil or not.
func TestEmptyListsAreAlike(t *testing.T) {
	for _, h := range handMade() {
		for i := range h.g.Nodes {
			n := &h.g.Nodes[i]
			for _, list := range []*[]int{&n.Shape, &n.Data, &n.Bias} {
				if len(*list) == 0 {
					*list = []int{}
				}
			}
		}
		if shapes, err := graph.Check(h.g); err != api.OK || !sameShapes(shapes, h.shapes) {
			t.Error(h.what, shapes, err)
		}
	}
}
