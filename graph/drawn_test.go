package graph_test

import (
	"math"
	"slices"
	"testing"

	"arras/api"
	"arras/graph"
)

// mixer tells words that look like chance, the same ones each time.
type mixer struct{ state uint64 }

func (x *mixer) next() uint64 {
	x.state += 0x9e3779b97f4a7c15
	z := x.state
	z = (z ^ z>>30) * 0xbf58476d1ce4e5b9
	z = (z ^ z>>27) * 0x94d049bb133111eb
	return z ^ z>>31
}

// below is a number below an end.
func (x *mixer) below(end int) int { return int(x.next() % uint64(end)) }

// one is one of a row.
func one[Thing any](x *mixer, things ...Thing) Thing { return things[x.below(len(things))] }

// value is a number that a graph may have.
func (x *mixer) value() int {
	return one(x, 0, 1, -1, x.below(9)-4, api.MaxValue, -api.MaxValue, x.below(2*api.MaxValue+1)-api.MaxValue)
}

func (x *mixer) values(count int) []int {
	list := make([]int, count)
	for i := range list {
		list[i] = x.value()
	}
	return list
}

// shape is one that may be.
func (x *mixer) shape() []int {
	for {
		var shape []int
		for range 1 + x.below(3) {
			shape = append(shape, 1+x.below(one(x, 2, 5, 8, 64)))
		}
		if isShape(shape) {
			return shape
		}
	}
}

// likeShape is another shape of as many entries.
func (x *mixer) likeShape(shape []int) []int {
	for range 40 {
		other := x.shape()
		if entriesOf(other) == entriesOf(shape) {
			return other
		}
	}
	return []int{entriesOf(shape)}
}

// node is one that may stand behind nodes of these shapes.
func (x *mixer) node(shapes [][]int) api.Node {
	for {
		n := x.anyNode(shapes)
		if n.Kind > 0 {
			return n
		}
	}
}

// anyNode is one that may be, or none of no kind.
func (x *mixer) anyNode(shapes [][]int) api.Node {
	kind := 1 + x.below(9)
	if kind <= 2 || len(shapes) == 0 {
		shape := x.shape()
		if kind == 2 {
			return api.Node{Kind: kind, Shape: shape, Data: x.values(entriesOf(shape))}
		}
		ends := x.values(2)
		return api.Node{Kind: 1, Shape: shape, Lo: slices.Min(ends), Hi: slices.Max(ends)}
	}
	n := api.Node{Kind: kind, A: x.below(len(shapes))}
	a := shapes[n.A]
	switch kind {
	case 3:
		n.Bias = x.values(1 + x.below(one(x, 2, 6, 64)))
		n.Data = x.values(len(n.Bias) * entriesOf(a))
	case 4, 5:
		return x.picture(n, a)
	case 6:
		n.B = x.below(len(shapes))
		if !slices.Equal(a, shapes[n.B]) {
			n.B = n.A
		}
	case 7:
		n.Data = x.values(1)
	case 8:
		n.Data = x.values(3)
	case 9:
		n.Shape = x.likeShape(a)
	}
	return n
}

// picture is a Conv or a Pool; of no kind, if A is no picture.
func (x *mixer) picture(n api.Node, a []int) api.Node {
	if len(a) != 3 {
		return api.Node{}
	}
	if n.Kind == 5 {
		for n.Size = 1 + x.below(8); a[1]%n.Size != 0 || a[2]%n.Size != 0; {
			n.Size--
		}
		return n
	}
	high, wide := 1+x.below(a[1]), 1+x.below(a[2])
	most := 64 / ((a[1] - high + 1) * (a[2] - wide + 1))
	n.Shape = []int{one(x, 1, 1+x.below(most), most), a[0], high, wide}
	n.Data, n.Bias = x.values(entriesOf(n.Shape)), x.values(n.Shape[0])
	return n
}

// graph is one that may be, of so many nodes.
func (x *mixer) graph(count int) api.Graph {
	var g api.Graph
	var shapes [][]int
	for range count {
		g.Nodes = append(g.Nodes, x.node(shapes))
		shapes, _ = judged(g)
	}
	g.Out = x.below(count)
	return g
}

// spoilt is a graph of which something was put otherwise.
func (x *mixer) spoilt(g api.Graph) api.Graph {
	g = cloned(g)
	if len(g.Nodes) == 0 {
		return g
	}
	place := x.below(len(g.Nodes))
	n := &g.Nodes[place]
	list := one(x, &n.Shape, &n.Data, &n.Bias)
	number := one(x, &n.Kind, &n.A, &n.B, &n.Lo, &n.Hi, &n.Size, &g.Out)
	if len(*list) > 0 && x.below(2) == 0 {
		number = &(*list)[x.below(len(*list))]
	}
	switch x.below(9) {
	case 0:
		*list = append(*list, x.wild())
	case 1:
		*list = (*list)[:x.below(len(*list)+1)]
	case 2:
		*list = nil
	case 3:
		*number++
	case 4:
		*number--
	case 5:
		*number = x.below(26)
	case 6:
		g.Nodes = slices.Delete(g.Nodes, place, place+1)
	case 7:
		other := x.below(len(g.Nodes))
		g.Nodes[place], g.Nodes[other] = g.Nodes[other], g.Nodes[place]
	default:
		*number = x.wild()
	}
	return g
}

// wild is a number of any size.
func (x *mixer) wild() int {
	return one(x, 0, 1, 2, -1, 64, 65, api.MaxValue+1, -api.MaxValue-1, math.MaxInt, math.MinInt, 1<<32, 1<<32+1, int(x.next()))
}

// cloned is a graph of new memory.
func cloned(g api.Graph) api.Graph {
	g.Nodes = slices.Clone(g.Nodes)
	for i, n := range g.Nodes {
		g.Nodes[i].Shape, g.Nodes[i].Data, g.Nodes[i].Bias = slices.Clone(n.Shape), slices.Clone(n.Data), slices.Clone(n.Bias)
	}
	return g
}

func TestDrawnGraphs(t *testing.T) {
	x, kinds := &mixer{state: 1}, map[int]int{}
	for i := range 1500 {
		g := x.graph(1 + i%api.MaxNodes)
		if isAsJudged(t, "drawn", g) != api.OK {
			t.Fatal("drawn graphs may be", g)
		}
		for _, n := range g.Nodes {
			kinds[n.Kind]++
		}
	}
	for kind := range 9 {
		if kinds[kind+1] < 400 {
			t.Error("too few of the kind", kind+1, kinds[kind+1])
		}
	}
}

// Whatever is put otherwise in a graph, the first thing that is wrong counts.
func TestSpoiltGraphs(t *testing.T) {
	x, told := &mixer{state: 2}, map[api.Errno]int{}
	for i := range 1500 {
		right := x.graph(1 + i%12)
		for range 30 {
			g := right
			for range 1 + x.below(3) {
				g = x.spoilt(g)
			}
			told[isAsJudged(t, "spoilt", g)]++
		}
	}
	for _, err := range []api.Errno{api.OK, api.ErrForm, api.ErrShape, api.ErrRange} {
		if told[err] < 400 {
			t.Error("too few tries", err, told[err])
		}
	}
}

// wildNode is one of any numbers.
func (x *mixer) wildNode() api.Node {
	row := func() []int {
		var list []int
		for range x.below(5) {
			list = append(list, one(x, 1, 2, x.wild()))
		}
		return list
	}
	few := func() int { return one(x, 0, 0, 0, 1, x.wild()) }
	return api.Node{Kind: x.below(11), A: few(), B: few(), Shape: row(), Lo: few(), Hi: few(), Size: few(), Data: row(), Bias: row()}
}

// Every call answers at all arguments.
func TestWildGraphs(t *testing.T) {
	x := &mixer{state: 3}
	for range 20000 {
		g := api.Graph{Out: one(x, 0, x.wild())}
		for range x.below(27) {
			g.Nodes = append(g.Nodes, one(x, x.wildNode(), api.Node{Kind: 1, Shape: []int{1, 1, 1}}))
		}
		isAsJudged(t, "wild", g)
	}
}

// A graph that may be stays one when nodes behind are let go.
func TestNodesBehindAreLetGo(t *testing.T) {
	x := &mixer{state: 4}
	for i := range 200 {
		g := x.graph(1 + i%api.MaxNodes)
		all, _ := graph.Check(g)
		for left := 1; left <= len(g.Nodes); left++ {
			for out := range left {
				shapes, err := graph.Check(api.Graph{Nodes: g.Nodes[:left], Out: out})
				if err != api.OK || !sameShapes(shapes, all[:left]) {
					t.Fatal(left, out, shapes, err, g)
				}
			}
			for _, out := range []int{-1, left, left + 1} {
				if shapes, err := graph.Check(api.Graph{Nodes: g.Nodes[:left], Out: out}); err != api.ErrForm || shapes != nil {
					t.Fatal(left, out, shapes, err)
				}
			}
		}
	}
}
