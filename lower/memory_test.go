package lower_test

import (
	"slices"
	"testing"

	"arras/api"
	"arras/lower"
)

const spare = 0x5a5a5a5a5a5a

// roomy is a list with spare room behind it.
func roomy[Entry any](row []Entry, more ...Entry) []Entry {
	return append(slices.Clone(row), more...)[:len(row)]
}

// roomyGraph is a graph with spare room everywhere.
func roomyGraph(g api.Graph) api.Graph {
	g.Nodes = roomy(g.Nodes, api.Node{Kind: spare}, input(0, 1, 2))
	for i := range g.Nodes {
		n := &g.Nodes[i]
		n.Shape, n.Data, n.Bias = roomy(n.Shape, 1, spare), roomy(n.Data, spare, 2), roomy(n.Bias, spare, spare, 3)
	}
	return g
}

// wordsOf are all numbers of a graph, spare room and lengths too.
func wordsOf(g api.Graph) []int {
	all := []int{g.Out, len(g.Nodes)}
	for _, n := range g.Nodes[:cap(g.Nodes)] {
		all = append(all, n.Kind, n.A, n.B, n.Lo, n.Hi, n.Size)
		for _, row := range [][]int{n.Shape, n.Data, n.Bias} {
			all = append(append(all, len(row)), row[:cap(row)]...)
		}
	}
	return all
}

// fill writes over lists and their spare room.
func fill(rows ...[]int) {
	for _, row := range rows {
		for i := range row[:cap(row)] {
			row[:cap(row)][i] = spare
		}
	}
}

// spoilGraph writes over all lists of a graph.
func spoilGraph(g api.Graph) {
	for _, n := range g.Nodes[:cap(g.Nodes)] {
		fill(n.Shape, n.Data, n.Bias)
	}
	clear(g.Nodes[:cap(g.Nodes)])
}

// listsOf are a program's lists of numbers.
func listsOf(v api.Vectors) [][]int {
	all := append([][]int{v.Out}, v.Plains...)
	for _, in := range v.Inputs {
		all = append(all, in.Slots)
	}
	return all
}

// spoil writes over a program.
func spoil(v api.Vectors) {
	fill(listsOf(v)...)
	clear(v.Plains[:cap(v.Plains)])
	clear(v.Inputs[:cap(v.Inputs)])
	clear(v.Code[:cap(v.Code)])
}

// overGraphs goes over graphs that may be, and some that may not.
func overGraphs(do func(g api.Graph, o api.Options, slots int)) {
	x := &mixer{state: 9}
	for _, h := range byHand() {
		do(h.g, h.o, h.v.Slots)
	}
	for i := range 150 {
		g, o := x.graph(1+i%12), one(x, mixtures()...)
		do(g, o, 128)
		do(g, o, x.slots())
		do(x.spoilt(g), o, 128)
	}
}

func TestWhatIsHandedInStays(t *testing.T) {
	overGraphs(func(g api.Graph, o api.Options, slots int) {
		g = roomyGraph(g)
		was := wordsOf(g)
		v, _ := lower.Lower(g, o, slots)
		if !slices.Equal(wordsOf(g), was) {
			t.Error("changed", g)
		}
		spoil(v)
		if !slices.Equal(wordsOf(g), was) {
			t.Error("shared", g)
		}
	})
}

// What is answered stays, whatever becomes of what was handed in and of other answers.
func TestAnswersAreNew(t *testing.T) {
	overGraphs(func(g api.Graph, o api.Options, slots int) {
		handed := roomyGraph(g)
		first, err := lower.Lower(handed, o, slots)
		second, _ := lower.Lower(handed, o, slots)
		spoilGraph(handed)
		want, wantErr := judgedLower(g, o, slots)
		if err != wantErr || !sameProgram(first, want) {
			t.Error("kept", g)
		}
		spoil(first)
		if !sameProgram(second, want) {
			t.Error("shared", g)
		}
	})
}

// No two lists of a program share memory, not in their spare room either: each number stands as it was put there last.
func TestListsStandAlone(t *testing.T) {
	count := 0
	overGraphs(func(g api.Graph, o api.Options, slots int) {
		v, _ := lower.Lower(g, o, slots)
		rows := listsOf(v)
		for i, row := range rows {
			for place := range row[:cap(row)] {
				row[:cap(row)][place] = i
			}
		}
		for i, row := range rows {
			for _, number := range row[:cap(row)] {
				if number != i {
					t.Error("shared", i, number)
				}
				count++
			}
		}
	})
	if count < 50000 {
		t.Error("too few tries", count)
	}
}

// The lists of a graph may be one list, and its nodes one node.
func TestOneList(t *testing.T) {
	all := list(1, 1, 1, 1)
	x := api.Node{Kind: api.KindInput, Shape: all[:3], Hi: 1}
	g := of(x, conv(0, all, all[:1], all[:1]), api.Node{Kind: api.KindConst, Shape: all[:3], Data: all[:1]}, sum(1, 2), power(3, 1, 1, 1), x)
	g.Nodes[4].Data = all[:3]
	for _, o := range mixtures() {
		if _, err := isAsJudged(t, g, o, 4); err != api.OK {
			t.Error(err)
		}
	}
	if !slices.Equal(all, list(1, 1, 1, 1)) {
		t.Error("changed", all)
	}
}

// Whoever asks, and many at once, is answered alike.
func TestManyAtOnce(t *testing.T) {
	for range 8 {
		t.Run("", func(t *testing.T) {
			t.Parallel()
			overGraphs(func(g api.Graph, o api.Options, slots int) { isAsJudged(t, g, o, slots) })
		})
	}
}
