package tidy_test

import (
	"slices"
	"testing"

	"arras/api"
	"arras/tidy"
)

const spare = 0x5a5a5a5a5a5a

// roomy is a list with spare room behind it.
func roomy[Entry any](list []Entry, more ...Entry) []Entry {
	return append(slices.Clone(list), more...)[:len(list)]
}

// roomyGraph is a graph with spare room everywhere, in which there are nodes too.
func roomyGraph(g api.Graph) api.Graph {
	nodes := make([]api.Node, len(g.Nodes))
	for i, n := range g.Nodes {
		n.Shape, n.Data, n.Bias = roomy(n.Shape, 1, spare), roomy(n.Data, spare, 2), roomy(n.Bias, spare, spare, 3)
		nodes[i] = n
	}
	return api.Graph{Nodes: roomy(nodes, input(0, 1, spare), api.Node{A: spare}), Out: g.Out}
}

// sharing is a graph of which all lists are pieces of one.
func sharing(g api.Graph) api.Graph {
	var all []int
	for _, n := range g.Nodes {
		all = slices.Concat(all, n.Shape, n.Data, n.Bias)
	}
	nodes := slices.Clone(g.Nodes)
	for i := range nodes {
		for _, row := range []*[]int{&nodes[i].Shape, &nodes[i].Data, &nodes[i].Bias} {
			*row, all = all[:len(*row)], all[len(*row):]
		}
	}
	return api.Graph{Nodes: nodes, Out: g.Out}
}

// wordsOf are all numbers of a graph, spare room and lengths too.
func wordsOf(g api.Graph) []int {
	list := []int{g.Out, len(g.Nodes)}
	for _, n := range g.Nodes[:cap(g.Nodes)] {
		list = append(list, n.Kind, n.A, n.B, n.Lo, n.Hi, n.Size)
		for _, row := range [][]int{n.Shape, n.Data, n.Bias} {
			list = append(append(list, len(row)), row[:cap(row)]...)
		}
	}
	return list
}

// fill writes over a list and its spare room.
func fill(list []int) {
	for i := range list[:cap(list)] {
		list[:cap(list)][i] = spare
	}
}

// spoil writes over all of a graph, and all its spare room.
func spoil(g api.Graph) {
	for _, n := range g.Nodes[:cap(g.Nodes)] {
		fill(n.Shape)
		fill(n.Data)
		fill(n.Bias)
	}
	clear(g.Nodes[:cap(g.Nodes)])
}

// overMemories goes over graphs: some that may not be, some to which nothing is done, some that are made smaller.
func overMemories(do func(g api.Graph)) {
	x := &mixer{state: 6}
	for _, g := range noGraphs() {
		do(g)
	}
	do(of(beyond()...))
	do(of(constant(list(1), 2), scaled(0, 3)))
	do(of(input(0, 1, 2), constant(list(2), 3, 4), constant(list(2), 3, 4), add(0, 1), add(2, 3), flat(4, 2, 1)))
	for i := range 400 {
		do(x.graph(1 + i%api.MaxNodes))
	}
}

func TestWhatIsHandedInStays(t *testing.T) {
	overMemories(func(g api.Graph) {
		for _, handed := range []api.Graph{roomyGraph(g), sharing(g)} {
			was := wordsOf(handed)
			tidied, _ := tidy.Tidy(handed)
			if !slices.Equal(wordsOf(handed), was) {
				t.Error("changed", g)
			}
			spoil(tidied)
			if !slices.Equal(wordsOf(handed), was) {
				t.Error("shared", g)
			}
		}
	})
}

// What is answered stays, whatever becomes of what was handed in and of other answers.
func TestWhatIsAnsweredIsNew(t *testing.T) {
	overMemories(func(g api.Graph) {
		want, wantErr := tidy.Tidy(g)
		text := textOf(want)
		handed := roomyGraph(g)
		tidied, err := tidy.Tidy(handed)
		more, _ := tidy.Tidy(handed)
		spoil(handed)
		if err != wantErr || textOf(tidied) != text {
			t.Error("kept", g)
		}
		spoil(tidied)
		if textOf(more) != text || textOf(want) != text {
			t.Error("shared", g)
		}
	})
}

// No two lists of an answer share memory, though they came of the same list: each number stands as it was put there last.
func TestListsStandAlone(t *testing.T) {
	count := 0
	overMemories(func(g api.Graph) {
		tidied, err := tidy.Tidy(sharing(g))
		if err != api.OK {
			return
		}
		var lists [][]int
		for _, n := range tidied.Nodes {
			lists = append(lists, n.Shape, n.Data, n.Bias)
		}
		for i, list := range lists {
			for place := range list[:cap(list)] {
				list[:cap(list)][place] = i
			}
		}
		for i, list := range lists {
			for place := range list[:cap(list)] {
				if list[:cap(list)][place] != i {
					t.Error("shared", g)
				}
				count++
			}
		}
	})
	if count < 1000 {
		t.Error("too few tries", count)
	}
}

// Graphs are made smaller no otherwise by many at once.
func TestManyAtOnce(t *testing.T) {
	x := &mixer{state: 7}
	var shared []api.Graph
	for i := range 60 {
		shared = append(shared, x.graph(1+i%api.MaxNodes))
	}
	for range 8 {
		t.Run("", func(t *testing.T) {
			t.Parallel()
			for _, g := range shared {
				isAsJudged(t, g)
			}
		})
	}
}
