package tidy_test

import (
	"fmt"
	"slices"
	"testing"

	"arras/api"
	"arras/graph"
	"arras/interval"
	"arras/tidy"
)

func hasA(n api.Node) bool { return n.Kind >= api.KindDense }

func hasB(n api.Node) bool { return n.Kind == api.KindAdd }

func isConstant(n api.Node) bool { return n.Kind == api.KindConst }

// numbersOf are a node's, of inputs of which each number is at its lower end.
func numbersOf(g api.Graph, place int) []int {
	var inputs [][]int
	for _, n := range g.Nodes {
		if n.Kind == api.KindInput {
			inputs = append(inputs, slices.Repeat([]int{n.Lo}, graph.Entries(n.Shape)))
		}
	}
	numbers, _ := interval.Run(api.Graph{Nodes: g.Nodes, Out: place}, inputs)
	return numbers
}

// judged takes the chapter's words one by one.
func judged(g api.Graph) (api.Graph, api.Errno) {
	if _, err := interval.Spans(g); err != api.OK {
		return api.Graph{}, err
	}
	shapes, _ := graph.Check(g)
	var row []api.Node
	var standIns []int
	for i, n := range g.Nodes {
		if hasA(n) {
			n.A = standIns[n.A]
		}
		if hasB(n) {
			n.B = standIns[n.B]
		}
		if hasA(n) && isConstant(row[n.A]) && (!hasB(n) || isConstant(row[n.B])) {
			n = api.Node{Kind: api.KindConst, Shape: shapes[i], Data: numbersOf(g, i)}
		}
		standIn := -1
		for place, other := range row {
			if n.Kind != api.KindInput && fmt.Sprint(other) == fmt.Sprint(n) {
				standIn = place
			}
		}
		if standIn < 0 {
			standIn, row = len(row), append(row, n)
		}
		standIns = append(standIns, standIn)
	}
	return letGo(row, standIns[g.Out]), api.OK
}

// letGo takes one node after the other out of a row.
func letGo(row []api.Node, out int) api.Graph {
	for place := 0; place < len(row); place++ {
		if row[place].Kind == api.KindInput || reaches(row, out, place) {
			continue
		}
		row = slices.Delete(slices.Clone(row), place, place+1)
		for i := range row {
			if hasA(row[i]) && row[i].A > place {
				row[i].A--
			}
			if hasB(row[i]) && row[i].B > place {
				row[i].B--
			}
		}
		if out > place {
			out--
		}
		place = -1
	}
	return api.Graph{Nodes: row, Out: out}
}

// reaches asks whether a node is another one or needs it.
func reaches(row []api.Node, from, to int) bool {
	n := row[from]
	return from == to || hasA(n) && n.A >= to && reaches(row, n.A, to) || hasB(n) && n.B != n.A && n.B >= to && reaches(row, n.B, to)
}

// meant goes another way: whoever has no input beneath is a constant, and who means the same has the same text.
func meant(g api.Graph) api.Graph {
	shapes, _ := graph.Check(g)
	numbers := map[string]int{}
	means := make([]int, len(g.Nodes))
	hasInput := make([]bool, len(g.Nodes))
	var firsts []api.Node
	var inputs []bool
	for i, n := range g.Nodes {
		hasInput[i] = n.Kind == api.KindInput || hasA(n) && hasInput[n.A] || hasB(n) && hasInput[n.B]
		if !hasInput[i] {
			n = api.Node{Kind: api.KindConst, Shape: shapes[i], Data: numbersOf(g, i)}
		}
		if hasA(n) {
			n.A = means[n.A]
		}
		if hasB(n) {
			n.B = means[n.B]
		}
		text := fmt.Sprintf("%+v", n)
		if n.Kind == api.KindInput {
			text = fmt.Sprint("input ", i)
		}
		if _, ok := numbers[text]; !ok {
			numbers[text] = len(firsts)
			firsts, inputs = append(firsts, n), append(inputs, n.Kind == api.KindInput)
		}
		means[i] = numbers[text]
	}
	kept := inputs
	mark(firsts, kept, means[g.Out])
	var small api.Graph
	moved := map[int]int{}
	for i, n := range firsts {
		if !kept[i] {
			continue
		}
		if hasA(n) {
			n.A = moved[n.A]
		}
		if hasB(n) {
			n.B = moved[n.B]
		}
		moved[i] = len(small.Nodes)
		small.Nodes = append(small.Nodes, n)
	}
	small.Out = moved[means[g.Out]]
	return small
}

func mark(row []api.Node, kept []bool, place int) {
	n := row[place]
	if kept[place] && hasA(n) {
		return
	}
	kept[place] = true
	if hasA(n) {
		mark(row, kept, n.A)
	}
	if hasB(n) {
		mark(row, kept, n.B)
	}
}

// isAsJudged holds Tidy against both.
func isAsJudged(t *testing.T, g api.Graph) (api.Graph, api.Errno) {
	t.Helper()
	got, err := tidy.Tidy(g)
	want, wantErr := judged(g)
	if err != wantErr || textOf(got) != textOf(want) {
		t.Errorf("%v %+v, want %v %+v: %+v", err, got, wantErr, want, g)
	}
	if err == api.OK && textOf(meant(g)) != textOf(want) {
		t.Errorf("the judges don't agree: %+v, %+v: %+v", want, meant(g), g)
	}
	if err != api.OK && (got.Nodes != nil || got.Out != 0) {
		t.Errorf("beside %v stands %+v", err, got)
	}
	return got, err
}
