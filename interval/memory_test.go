package interval_test

import (
	"slices"
	"testing"

	"arras/api"
	"arras/graph"
	"arras/interval"
)

const spare = 0x5a5a5a5a5a5a

// roomy is a list with spare room behind it.
func roomy[Entry any](list []Entry, more ...Entry) []Entry {
	return append(slices.Clone(list), more...)[:len(list)]
}

// roomyGraph is a graph with spare room everywhere, in which there are nodes too.
func roomyGraph(g api.Graph) api.Graph {
	nodes := make([]api.Node, len(g.Nodes))
	for i, n := range g.Nodes {
		n.Shape, n.Data, n.Bias = roomy(n.Shape, 1, spare), roomy(n.Data, spare, 2), roomy(n.Bias, spare, spare, 3)
		nodes[i] = n
	}
	return api.Graph{Nodes: roomy(nodes, api.Node{Kind: 1, Shape: []int{spare}}, api.Node{A: spare}), Out: g.Out}
}

// roomyRows are inputs with spare room behind them, and behind each of them.
func roomyRows(rows [][]int) [][]int {
	all := make([][]int, len(rows))
	for i, row := range rows {
		all[i] = roomy(row, spare, 1)
	}
	return roomy(all, []int{spare}, []int{1, 2})
}

// wordsOf are all numbers of a graph and its inputs, spare room and lengths too.
func wordsOf(g api.Graph, inputs [][]int) []int {
	list := []int{g.Out, len(g.Nodes), len(inputs)}
	for _, n := range g.Nodes[:cap(g.Nodes)] {
		list = append(list, n.Kind, n.A, n.B, n.Lo, n.Hi, n.Size)
		for _, row := range [][]int{n.Shape, n.Data, n.Bias} {
			list = append(append(list, len(row)), row[:cap(row)]...)
		}
	}
	for _, row := range inputs[:cap(inputs)] {
		list = append(append(list, len(row)), row[:cap(row)]...)
	}
	return list
}

// fill writes over a list and its spare room.
func fill(list []int) {
	for i := range list[:cap(list)] {
		list[:cap(list)][i] = spare
	}
}

func fillSpans(list []api.Span) {
	for i := range list[:cap(list)] {
		list[:cap(list)][i] = api.Span{Lo: spare, Hi: spare}
	}
}

// spoil writes over all of a graph and its inputs, and all their spare room.
func spoil(g api.Graph, inputs [][]int) {
	for _, n := range g.Nodes[:cap(g.Nodes)] {
		fill(n.Shape)
		fill(n.Data)
		fill(n.Bias)
	}
	clear(g.Nodes[:cap(g.Nodes)])
	for _, row := range inputs[:cap(inputs)] {
		fill(row)
	}
	clear(inputs[:cap(inputs)])
}

// overMemories goes over graphs, of few nodes each one as Out: some that may not be, some of inputs that may not be.
func overMemories(do func(g api.Graph, inputs [][]int)) {
	x := &mixer{state: 6}
	list := []api.Graph{asked(), of(constant([]int{2}, 3, 4)), of(input(0, 1, 2)), of(input(0, 1, 2), flat(0, 2, 1))}
	for _, g := range noGraphs() {
		list = append(list, g)
	}
	for i := range 60 {
		list = append(list, x.graph(1+i%api.MaxNodes))
	}
	for _, g := range list {
		var inputs [][]int
		if _, err := graph.Check(g); err == api.OK {
			inputs = x.inputs(g)
		}
		do(g, inputs)
		if len(g.Nodes) < 12 {
			overOut(g, func(g api.Graph) { do(g, inputs) })
		}
		if len(inputs) > 0 {
			do(g, inputs[1:])
			do(g, append(slices.Clip(inputs), []int{1}))
		}
	}
}

func TestWhatIsHandedInStays(t *testing.T) {
	overMemories(func(g api.Graph, inputs [][]int) {
		g, inputs = roomyGraph(g), roomyRows(inputs)
		was := wordsOf(g, inputs)
		numbers, _ := interval.Run(g, inputs)
		spans, _ := interval.Spans(g)
		if !slices.Equal(wordsOf(g, inputs), was) {
			t.Error("changed", g, inputs)
		}
		fill(numbers)
		fillSpans(spans)
		if !slices.Equal(wordsOf(g, inputs), was) {
			t.Error("shared", g, inputs)
		}
	})
}

// What is answered stays, whatever becomes of what was handed in and of other answers.
func TestWhatIsAnsweredIsNew(t *testing.T) {
	overMemories(func(g api.Graph, inputs [][]int) {
		handed, rows := roomyGraph(g), roomyRows(inputs)
		numbers, err := interval.Run(handed, rows)
		more, _ := interval.Run(handed, rows)
		spans, errSpans := interval.Spans(handed)
		moreSpans, _ := interval.Spans(handed)
		spoil(handed, rows)
		want, wantErr := interval.Run(roomyGraph(g), roomyRows(inputs))
		wantSpans, wantErrSpans := interval.Spans(roomyGraph(g))
		if err != wantErr || !slices.Equal(numbers, want) || errSpans != wantErrSpans || !slices.Equal(spans, wantSpans) {
			t.Error("kept", g, inputs)
		}
		fill(numbers)
		fillSpans(spans)
		if !slices.Equal(more, want) || !slices.Equal(moreSpans, wantSpans) {
			t.Error("shared", g, inputs)
		}
	})
}

func TestMostChangesNothing(t *testing.T) {
	spans := roomy([]api.Span{{Lo: -3, Hi: 2}, {Lo: 5, Hi: 9}}, api.Span{Lo: spare, Hi: spare})
	was := slices.Clone(spans[:cap(spans)])
	if got := interval.Most(spans); got != 9 || !slices.Equal(spans[:cap(spans)], was) {
		t.Error(got, spans)
	}
}

// Graphs are reckoned no otherwise by many at once.
func TestManyAtOnce(t *testing.T) {
	x := &mixer{state: 7}
	var shared []api.Graph
	for i := range 40 {
		shared = append(shared, x.graph(1+i%api.MaxNodes))
	}
	for range 8 {
		t.Run("", func(t *testing.T) {
			t.Parallel()
			x := &mixer{state: 8}
			for _, g := range shared {
				isAsPlain(t, x, g)
			}
		})
	}
}
