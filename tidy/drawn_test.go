package tidy_test

import (
	"math"
	"slices"
	"testing"

	"arras/api"
	"arras/graph"
	"arras/interval"
	"arras/tidy"
)

// mixer tells words that look like chance, the same ones each time.
type mixer struct{ state uint64 }

func (x *mixer) next() uint64 {
	x.state += 0x9e3779b97f4a7c15
	z := x.state
	z = (z ^ z>>30) * 0xbf58476d1ce4e5b9
	z = (z ^ z>>27) * 0x94d049bb133111eb
	return z ^ z>>31
}

// below is a number below an end.
func (x *mixer) below(end int) int { return int(x.next() % uint64(end)) }

// from is a number of a span.
func (x *mixer) from(lo, hi int) int { return lo + x.below(hi-lo+1) }

// one is one of a row.
func one[Thing any](x *mixer, things ...Thing) Thing { return things[x.below(len(things))] }

// values are few unlike ones, so that nodes are often the same.
func (x *mixer) values(count int) []int {
	list := make([]int, count)
	size := one(x, 1, 1, 2, 9)
	for i := range list {
		list[i] = x.from(-size, size)
	}
	if x.below(30) == 0 {
		list[x.below(count)] = one(x, most, -most, x.below(most))
	}
	return list
}

// shape is one of few, so that nodes often go together.
func (x *mixer) shape() []int {
	return one(x, []int{1}, []int{2}, []int{4}, []int{2, 2}, []int{1, 2, 2}, []int{1, 2, 2}, []int{2, 2, 2}, []int{1, 1, 1}, []int{1, 4, 4})
}

// node is one that may stand behind nodes of these shapes.
func (x *mixer) node(nodes []api.Node, shapes [][]int) api.Node {
	for {
		n := x.anyNode(shapes)
		if len(nodes) > 0 && x.below(3) == 0 {
			n = x.alike(nodes)
		}
		if _, err := graph.Check(of(append(slices.Clone(nodes), n)...)); err == api.OK {
			return n
		}
	}
}

// alike is a node that stands there, or nearly.
func (x *mixer) alike(nodes []api.Node) api.Node {
	n := one(x, nodes...)
	switch x.below(8) {
	case 0:
		n.A = x.below(len(nodes))
	case 1:
		n.B = x.below(len(nodes))
	case 2:
		n.Size = 1 + x.below(2)
	case 3:
		n.Shape = x.shape()
	case 4:
		if len(n.Data) > 0 {
			n.Data = x.values(len(n.Data))
		}
	case 5:
		if len(n.Bias) > 0 {
			n.Bias = x.values(len(n.Bias))
		}
	}
	return n
}

// anyNode is one that may be or not.
func (x *mixer) anyNode(shapes [][]int) api.Node {
	if len(shapes) == 0 || x.below(4) == 0 {
		shape := x.shape()
		if x.below(2) == 0 {
			return constant(shape, x.values(graph.Entries(shape))...)
		}
		ends := x.values(2)
		return input(slices.Min(ends), slices.Max(ends), shape...)
	}
	n := api.Node{Kind: 3 + x.below(7), A: x.below(len(shapes))}
	a := shapes[n.A]
	switch n.Kind {
	case api.KindDense:
		n.Bias = x.values(one(x, 1, 1, 2, 4))
		n.Data = x.values(len(n.Bias) * graph.Entries(a))
	case api.KindConv:
		if len(a) == 3 {
			n.Shape = []int{one(x, 1, 1, 2), a[0], 1 + x.below(a[1]), 1 + x.below(a[2])}
			n.Bias = x.values(n.Shape[0])
			n.Data = x.values(n.Shape[0] * n.Shape[1] * n.Shape[2] * n.Shape[3])
		}
	case api.KindPool:
		n.Size = one(x, 1, 2, 2)
	case api.KindAdd:
		n.B = x.below(len(shapes))
	case api.KindScale:
		n.Data = x.values(1)
	case api.KindPower:
		n.Data = x.values(3)
	case api.KindFlat:
		n.Shape = x.shape()
	}
	return n
}

// graph is one of so many nodes; those that would be beyond MaxValue are taken but seldom.
func (x *mixer) graph(count int) api.Graph {
	var g api.Graph
	var shapes [][]int
	isBeyond := false
	for len(g.Nodes) < count {
		longer := api.Graph{Nodes: append(slices.Clip(g.Nodes), x.node(g.Nodes, shapes))}
		_, err := interval.Spans(longer)
		if err == api.OK || isBeyond || x.below(4) == 0 {
			g, isBeyond = longer, err != api.OK
			shapes, _ = graph.Check(g)
		}
	}
	g.Out = one(x, count-1, x.below(count))
	return g
}

// inputs are such as a graph asks for: the ends stand among them.
func (x *mixer) inputs(g api.Graph) [][]int {
	var rows [][]int
	for _, n := range inputsOf(g) {
		row := make([]int, graph.Entries(n.Shape))
		for i := range row {
			row[i] = one(x, n.Lo, n.Hi, x.from(n.Lo, n.Hi), x.from(n.Lo, n.Hi))
		}
		rows = append(rows, row)
	}
	return rows
}

// inputsOf are a graph's nodes that are inputs.
func inputsOf(g api.Graph) []api.Node {
	return slices.DeleteFunc(slices.Clone(g.Nodes), func(n api.Node) bool { return n.Kind != api.KindInput })
}

// counted is how often things came about in graphs that were tidied: of each kind nodes, those of constants alone and those that stand twice; and by how much graphs were made shorter.
type counted struct{ nodes, ofConstants, doubles, shorter [10]int }

func (c *counted) count(g, tidied api.Graph) {
	c.shorter[min(len(g.Nodes)-len(tidied.Nodes), 3)]++
	for i, n := range g.Nodes {
		c.nodes[n.Kind]++
		if hasA(n) && isConstant(g.Nodes[n.A]) && (!hasB(n) || isConstant(g.Nodes[n.B])) {
			c.ofConstants[n.Kind]++
		}
		isSame := func(other api.Node) bool { return textOf(of(n)) == textOf(of(other)) }
		if slices.ContainsFunc(g.Nodes[:i], isSame) {
			c.doubles[n.Kind]++
		}
	}
}

func (c *counted) areEnough(t *testing.T) {
	t.Helper()
	for kind := api.KindInput; kind <= api.KindFlat; kind++ {
		if c.nodes[kind] < 200 || hasA(api.Node{Kind: kind}) && c.ofConstants[kind] < 50 || c.doubles[kind] < 50 {
			t.Error("too few of the kind", kind, c)
		}
	}
	if slices.Min(c.shorter[:4]) < 50 {
		t.Error("too few are so much shorter", c.shorter)
	}
}

// Drawn graphs, of few nodes each one as Out.
func TestDrawnGraphs(t *testing.T) {
	x, told, counts := &mixer{state: 1}, map[api.Errno]int{}, &counted{}
	for i := range 1600 {
		g := x.graph(1 + i%api.MaxNodes)
		tidied, err := isAsJudged(t, g)
		told[err]++
		if err == api.OK {
			counts.count(g, tidied)
		}
		if len(g.Nodes) < 9 {
			for place := range g.Nodes {
				isAsJudged(t, out(place, g.Nodes...))
			}
		}
	}
	counts.areEnough(t)
	if told[api.OK] < 1000 || told[api.ErrRange] < 50 {
		t.Error("too few tries", told)
	}
}

// The tidied graph has the same inputs, and tells the same of them.
func TestTellsTheSame(t *testing.T) {
	x, runs, unlike := &mixer{state: 2}, 0, 0
	for i := range 1200 {
		g := x.graph(1 + i%api.MaxNodes)
		tidied, err := tidy.Tidy(g)
		if err != api.OK {
			continue
		}
		if textOf(of(inputsOf(g)...)) != textOf(of(inputsOf(tidied)...)) {
			t.Errorf("inputs: %+v, %+v", g, tidied)
		}
		for range 4 {
			inputs := x.inputs(g)
			want, err := interval.Run(g, inputs)
			got, gotErr := interval.Run(tidied, inputs)
			if err != api.OK || gotErr != api.OK || !slices.Equal(got, want) {
				t.Errorf("%v %v, want %v %v of %v: %+v, %+v", got, gotErr, want, err, inputs, g, tidied)
			}
			runs++
		}
		if textOf(g) != textOf(tidied) {
			unlike++
		}
	}
	if runs < 3000 || unlike < 600 {
		t.Error("too few tries", runs, unlike)
	}
}

// It is no longer, and tidied again it stays.
func TestTidiedAgain(t *testing.T) {
	x, count := &mixer{state: 3}, 0
	for i := range 1200 {
		g := x.graph(1 + i%api.MaxNodes)
		tidied, err := tidy.Tidy(g)
		if err != api.OK {
			continue
		}
		if len(tidied.Nodes) > len(g.Nodes) {
			t.Errorf("longer: %+v, %+v", g, tidied)
		}
		stays(t, "tidied again", tidied)
		count++
	}
	if count < 800 {
		t.Error("too few tries", count)
	}
}

// doubled is a graph of which all nodes that are no inputs stand twice, one behind the other; which of the two is taken is drawn.
func (x *mixer) doubled(g api.Graph) api.Graph {
	var twice api.Graph
	places := make([][]int, len(g.Nodes))
	for i, n := range g.Nodes {
		for range 2 {
			m := n
			if hasA(n) {
				m.A = one(x, places[n.A]...)
			}
			if hasB(n) {
				m.B = one(x, places[n.B]...)
			}
			places[i] = append(places[i], len(twice.Nodes))
			twice.Nodes = append(twice.Nodes, m)
			if n.Kind == api.KindInput {
				break
			}
		}
	}
	twice.Out = one(x, places[g.Out]...)
	return twice
}

func TestDoubledGraphs(t *testing.T) {
	x, count := &mixer{state: 4}, 0
	for i := range 1500 {
		g := x.graph(1 + i%20)
		twice := x.doubled(g)
		want, err := tidy.Tidy(g)
		if err != api.OK || len(twice.Nodes) > api.MaxNodes {
			continue
		}
		becomes(t, "doubled", twice, want)
		count++
	}
	if count < 700 {
		t.Error("too few tries", count)
	}
}

// wild is a number of any size.
func (x *mixer) wild() int {
	return one(x, 0, 1, 2, -1, 3, 64, most, -most, most+1, math.MaxInt, math.MinInt, 1<<32, int(x.next()))
}

func (x *mixer) wildRow() []int {
	var row []int
	for range x.below(5) {
		row = append(row, one(x, 1, 1, 2, x.wild()))
	}
	return row
}

// The call answers at all arguments.
func TestWildArguments(t *testing.T) {
	x, told := &mixer{state: 5}, map[api.Errno]int{}
	for range 20000 {
		few := func() int { return one(x, 0, 0, 0, 1, x.wild()) }
		g := api.Graph{Out: few()}
		for range x.below(27) {
			wild := api.Node{Kind: x.below(11), A: few(), B: few(), Shape: x.wildRow(), Lo: few(), Hi: few(), Size: few(), Data: x.wildRow(), Bias: x.wildRow()}
			g.Nodes = append(g.Nodes, one(x, wild, input(0, 1, 1), constant([]int{1}, one(x, 1, few())), add(0, few()), scaled(0, few()), power(0, few(), few(), few())))
		}
		_, err := isAsJudged(t, g)
		told[err]++
	}
	if told[api.OK] < 100 || told[api.ErrForm] < 100 || told[api.ErrRange] < 100 {
		t.Error("too few tries", told)
	}
}
