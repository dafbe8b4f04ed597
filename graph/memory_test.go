package graph_test

import (
	"slices"
	"testing"

	"arras/api"
	"arras/graph"
)

const spare = 0x5a5a5a5a5a5a

// roomy is a list with spare room behind it.
func roomy[Entry any](list []Entry, more ...Entry) []Entry {
	return append(slices.Clone(list), more...)[:len(list)]
}

// roomyGraph is a graph with spare room everywhere, in which there are nodes too.
func roomyGraph(g api.Graph) api.Graph {
	nodes := make([]api.Node, len(g.Nodes))
	for i, n := range g.Nodes {
		n.Shape, n.Data, n.Bias = roomy(n.Shape, 1, spare), roomy(n.Data, spare, 2), roomy(n.Bias, spare, spare, 3)
		nodes[i] = n
	}
	return api.Graph{Nodes: roomy(nodes, api.Node{Kind: 1, Shape: []int{spare}}, api.Node{A: spare}), Out: g.Out}
}

// wordsOf are all numbers of a graph, spare room and lengths too.
func wordsOf(g api.Graph) []int {
	list := []int{g.Out, len(g.Nodes)}
	for _, n := range g.Nodes[:cap(g.Nodes)] {
		list = append(list, n.Kind, n.A, n.B, n.Lo, n.Hi, n.Size)
		for _, row := range [][]int{n.Shape, n.Data, n.Bias} {
			list = append(append(list, len(row)), row[:cap(row)]...)
		}
	}
	return list
}

// fill writes over a list and its spare room.
func fill(list []int, v int) {
	for i := range list[:cap(list)] {
		list[:cap(list)][i] = v
	}
}

// spoil writes over all of a graph and all its spare room.
func spoil(g api.Graph) {
	for _, n := range g.Nodes[:cap(g.Nodes)] {
		fill(n.Shape, spare)
		fill(n.Data, spare)
		fill(n.Bias, spare)
	}
	clear(g.Nodes[:cap(g.Nodes)])
}

// memories are graphs that may be, and some that may not.
func memories() []api.Graph {
	x := &mixer{state: 5}
	var list []api.Graph
	for _, h := range handMade() {
		list = append(list, h.g)
	}
	for i := range 60 {
		g := x.graph(1 + i%api.MaxNodes)
		list = append(list, g, x.spoilt(g), x.spoilt(g), x.spoilt(g))
	}
	return list
}

func TestWhatIsHandedInStays(t *testing.T) {
	for _, g := range memories() {
		g = roomyGraph(g)
		was := wordsOf(g)
		shapes, _ := graph.Check(g)
		for _, n := range g.Nodes {
			graph.Entries(n.Shape)
		}
		if !slices.Equal(wordsOf(g), was) {
			t.Error("changed", g)
		}
		for _, shape := range shapes {
			fill(shape, spare)
		}
		clear(shapes[:cap(shapes)])
		if !slices.Equal(wordsOf(g), was) {
			t.Error("shared", g)
		}
	}
}

// What is answered stays, whatever becomes of what was handed in and of other answers.
func TestWhatIsAnsweredIsNew(t *testing.T) {
	for _, g := range memories() {
		handed := roomyGraph(g)
		first, err := graph.Check(handed)
		second, _ := graph.Check(handed)
		spoil(handed)
		want, wantErr := judged(g)
		if err != wantErr || !sameShapes(first, want) {
			t.Error("kept", g)
		}
		for _, shape := range first {
			fill(shape, spare)
		}
		clear(first[:cap(first)])
		if !sameShapes(second, want) {
			t.Error("shared", g)
		}
	}
}

// No two shapes share memory, not in their spare room either.
func TestShapesStandAlone(t *testing.T) {
	for _, g := range memories() {
		shapes, _ := graph.Check(g)
		for i, shape := range shapes {
			fill(shape, i)
		}
		for i, shape := range shapes {
			if slices.ContainsFunc(shape[:cap(shape)], func(v int) bool { return v != i }) {
				t.Error("shared", i, g)
			}
		}
	}
}

// Graphs are checked no otherwise by many at once.
func TestManyAtOnce(t *testing.T) {
	shared := memories()
	for range 8 {
		t.Run("", func(t *testing.T) {
			t.Parallel()
			for _, g := range shared {
				isAsJudged(t, "at once", g)
			}
		})
	}
}
