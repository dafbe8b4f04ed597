package interval_test

import (
	"slices"
	"testing"

	"arras/api"
	"arras/graph"
	"arras/interval"
)

// mixer tells words that look like chance, the same ones each time.
type mixer struct{ state uint64 }

func (x *mixer) next() uint64 {
	x.state += 0x9e3779b97f4a7c15
	z := x.state
	z = (z ^ z>>30) * 0xbf58476d1ce4e5b9
	z = (z ^ z>>27) * 0x94d049bb133111eb
	return z ^ z>>31
}

// below is a number below an end.
func (x *mixer) below(end int) int { return int(x.next() % uint64(end)) }

// from is a number of a span.
func (x *mixer) from(lo, hi int) int { return lo + x.below(hi-lo+1) }

// one is one of a row.
func one[Thing any](x *mixer, things ...Thing) Thing { return things[x.below(len(things))] }

// values are numbers that are small, and sometimes great.
func (x *mixer) values(count int) []int {
	list := make([]int, count)
	size := one(x, 1, 3, 3, 9, 1000)
	for i := range list {
		list[i] = x.from(-size, size)
	}
	if x.below(40) == 0 {
		list[x.below(count)] = one(x, -1, 1) * one(x, api.MaxValue, api.MaxValue-x.below(5), x.below(api.MaxValue))
	}
	return list
}

// shape is one that may be.
func (x *mixer) shape() []int {
	for {
		var shape []int
		for range one(x, 1, 2, 3, 3) {
			shape = append(shape, 1+x.below(one(x, 2, 5, 8, 64)))
		}
		if graph.Entries(shape) > 0 {
			return shape
		}
	}
}

// node is one that may stand behind nodes of these shapes.
func (x *mixer) node(shapes [][]int) api.Node {
	for {
		n := x.anyNode(shapes)
		var g api.Graph
		for _, shape := range shapes {
			g.Nodes = append(g.Nodes, api.Node{Kind: api.KindInput, Shape: shape})
		}
		g.Nodes = append(g.Nodes, n)
		if _, err := graph.Check(g); err == api.OK {
			return n
		}
	}
}

// anyNode is one that may be or not.
func (x *mixer) anyNode(shapes [][]int) api.Node {
	if len(shapes) == 0 || x.below(8) == 0 {
		shape := x.shape()
		if x.below(3) == 0 {
			return api.Node{Kind: api.KindConst, Shape: shape, Data: x.values(graph.Entries(shape))}
		}
		ends := x.values(2)
		return api.Node{Kind: api.KindInput, Shape: shape, Lo: slices.Min(ends), Hi: slices.Max(ends)}
	}
	n := api.Node{Kind: 3 + x.below(7), A: x.below(len(shapes))}
	a := shapes[n.A]
	switch n.Kind {
	case api.KindDense:
		n.Bias = x.values(1 + x.below(one(x, 2, 6, 64)))
		n.Data = x.values(len(n.Bias) * graph.Entries(a))
	case api.KindConv:
		if len(a) == 3 {
			n.Shape = []int{1 + x.below(one(x, 2, 4)), a[0], 1 + x.below(a[1]), 1 + x.below(a[2])}
			n.Bias = x.values(n.Shape[0])
			n.Data = x.values(n.Shape[0] * n.Shape[1] * n.Shape[2] * n.Shape[3])
		}
	case api.KindPool:
		n.Size = one(x, 1, 2, 2, 3, 4)
	case api.KindAdd:
		n.B = x.below(len(shapes))
	case api.KindScale:
		n.Data = x.values(1)
	case api.KindPower:
		n.Data = x.values(3)
	case api.KindFlat:
		n.Shape = one(x, x.shape(), []int{graph.Entries(a)}, []int{1, graph.Entries(a)})
	}
	return n
}

// graph is one of so many nodes; those that would be beyond MaxValue are taken but seldom.
func (x *mixer) graph(count int) api.Graph {
	var g api.Graph
	var shapes [][]int
	isBeyond := false
	for len(g.Nodes) < count {
		longer := api.Graph{Nodes: append(slices.Clip(g.Nodes), x.node(shapes))}
		_, err := interval.Spans(longer)
		if err == api.OK || isBeyond || x.below(count) == 0 {
			g, isBeyond = longer, err != api.OK
			shapes, _ = graph.Check(g)
		}
	}
	g.Out = x.below(count)
	return g
}

// inputs are such as a graph asks for: the ends stand among them.
func (x *mixer) inputs(g api.Graph) [][]int {
	var rows [][]int
	for _, n := range g.Nodes {
		if n.Kind != api.KindInput {
			continue
		}
		row := make([]int, graph.Entries(n.Shape))
		for i := range row {
			row[i] = one(x, n.Lo, n.Hi, x.from(n.Lo, n.Hi), x.from(n.Lo, n.Hi))
		}
		rows = append(rows, row)
	}
	return rows
}

// isAsPlain asks Spans and, if there are some, Run, of each node as Out.
func isAsPlain(t *testing.T, x *mixer, g api.Graph) api.Errno {
	t.Helper()
	p := plainOf(g)
	want, wantErr := p.spans()
	spans, err := interval.Spans(g)
	if err != wantErr || !slices.Equal(spans, want) || err != api.OK && spans != nil {
		t.Errorf("Spans: %v %v, want %v %v: %+v", spans, err, want, wantErr, g)
	}
	inputs := x.inputs(g)
	numbers := p.numbers(inputs)
	for out := range g.Nodes {
		g.Out = out
		got, err := interval.Run(g, inputs)
		if wantErr != api.OK {
			numbers[out] = nil
		}
		if err != wantErr || !slices.Equal(got, numbers[out]) {
			t.Errorf("Run: %v %v, want %v %v: %+v of %v", got, err, numbers[out], wantErr, g, inputs)
		}
	}
	return wantErr
}

func TestDrawnGraphs(t *testing.T) {
	x, kinds, told := &mixer{state: 1}, map[int]int{}, map[api.Errno]int{}
	for i := range 1200 {
		g := x.graph(1 + i%api.MaxNodes)
		told[isAsPlain(t, x, g)]++
		for _, n := range g.Nodes {
			kinds[n.Kind]++
		}
	}
	for kind := range 9 {
		if kinds[kind+1] < 150 {
			t.Error("too few of the kind", kind+1, kinds[kind+1])
		}
	}
	if told[api.OK] < 500 || told[api.ErrRange] < 50 {
		t.Error("too few tries", told)
	}
}

// Each number of a node is within its span.
func TestNumbersAreWithinSpans(t *testing.T) {
	x, count := &mixer{state: 2}, 0
	for i := range 400 {
		g := x.graph(1 + i%api.MaxNodes)
		spans, err := interval.Spans(g)
		if err != api.OK {
			continue
		}
		for range 5 {
			inputs := x.inputs(g)
			for out, span := range spans {
				g.Out = out
				numbers, err := interval.Run(g, inputs)
				isOutside := func(v int) bool { return v < span.Lo || v > span.Hi }
				if err != api.OK || len(numbers) == 0 || slices.ContainsFunc(numbers, isOutside) {
					t.Errorf("%v %v of node %d aren't within %v: %+v of %v", numbers, err, out, span, g, inputs)
				}
				count++
			}
		}
	}
	if count < 15000 {
		t.Error("too few tries", count)
	}
}

// reached are the ends that a node's numbers come to, if each of A's is tried anywhere within.
func reached(t *testing.T, g api.Graph, a api.Span, entries int) api.Span {
	t.Helper()
	row := slices.Repeat([]int{a.Lo}, entries)
	s := api.Span{Lo: api.MaxValue + 1, Hi: -api.MaxValue - 1}
	for {
		numbers, err := interval.Run(g, [][]int{row})
		if err != api.OK {
			t.Fatal(err, g, row)
		}
		s.Lo, s.Hi = min(s.Lo, slices.Min(numbers)), max(s.Hi, slices.Max(numbers))
		place := 0
		for place < entries && row[place] == a.Hi {
			row[place] = a.Lo
			place++
		}
		if place == entries {
			return s
		}
		row[place]++
	}
}

// Of one node behind an input the span is no wider than what all inputs come to.
func TestSpansAreReached(t *testing.T) {
	x := &mixer{state: 3}
	for range 400 {
		shape := one(x, []int{1}, []int{2}, []int{3}, []int{1, 2, 2}, []int{1, 1, 3}, []int{2, 2, 1}, []int{2, 1, 1}, []int{2, 2})
		g := api.Graph{Nodes: []api.Node{{Kind: api.KindInput, Shape: shape, Lo: x.from(-4, 2)}}, Out: 1}
		g.Nodes[0].Hi = g.Nodes[0].Lo + x.below(4)
		n := x.node([][]int{shape})
		if n.Kind == api.KindInput || n.Kind == api.KindAdd {
			continue
		}
		g.Nodes = append(g.Nodes, n)
		spans, err := interval.Spans(g)
		if err != api.OK {
			continue
		}
		if got := reached(t, g, spans[0], graph.Entries(shape)); got != spans[1] {
			t.Errorf("%v, but %v is reached: %+v", spans[1], got, g)
		}
	}
}
