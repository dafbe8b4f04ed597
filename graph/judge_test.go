package graph_test

import (
	"math/big"
	"slices"
	"strconv"
	"strings"
	"testing"

	"arras/api"
	"arras/graph"
)

// judge goes by the chapter's words alone, and tells no more than the first thing that is wrong.
type judge struct {
	g      api.Graph
	shapes [][]int
}

// must ends it all with an error, if a thing doesn't hold.
func must(holds bool, err api.Errno) {
	if !holds {
		panic(err)
	}
}

// product is of numbers of any size; a shape's and a kernel's are asked for one by one ahead of it.
func product(numbers []int) *big.Int {
	all := big.NewInt(1)
	for _, v := range numbers {
		all.Mul(all, big.NewInt(int64(v)))
	}
	return all
}

func isAbove(least int) func(v int) bool { return func(v int) bool { return v > least } }

func isBelow(end int) func(v int) bool { return func(v int) bool { return v < end } }

// isShape asks whether numbers are 1 to 3, each 1 or more, their product at most MaxEntries.
func isShape(shape []int) bool {
	return len(shape) >= 1 && len(shape) <= 3 && !slices.ContainsFunc(shape, isBelow(1)) && product(shape).Cmp(big.NewInt(64)) <= 0
}

// entriesOf are a shape's that may be.
func entriesOf(shape []int) int { return int(product(shape).Int64()) }

// fieldsOf is the chapter's column of what a kind has.
func fieldsOf(kind int) string {
	return map[int]string{1: "Shape Lo Hi", 2: "Shape Data", 3: "A Bias Data", 4: "A Shape Data Bias", 5: "A Size", 6: "A B", 7: "A Data", 8: "A Data", 9: "A Shape"}[kind]
}

// isBare asks whether a field is 0 or empty.
func isBare(n api.Node, field string) bool {
	return map[string]bool{"A": n.A == 0, "B": n.B == 0, "Shape": len(n.Shape) == 0, "Lo": n.Lo == 0, "Hi": n.Hi == 0, "Size": n.Size == 0, "Data": len(n.Data) == 0, "Bias": len(n.Bias) == 0}[field]
}

func (j *judge) form(place int, n api.Node) {
	has := strings.Fields(fieldsOf(n.Kind))
	must(len(has) > 0, api.ErrForm)
	for _, field := range []string{"A", "B", "Shape", "Lo", "Hi", "Size", "Data", "Bias"} {
		must(slices.Contains(has, field) || isBare(n, field), api.ErrForm)
	}
	must(!slices.Contains(has, "A") || n.A >= 0 && n.A < place, api.ErrForm)
	must(!slices.Contains(has, "B") || n.B >= 0 && n.B < place, api.ErrForm)
	switch n.Kind {
	case 1, 9:
		must(isShape(n.Shape), api.ErrForm)
	case 2:
		must(isShape(n.Shape) && len(n.Data) == entriesOf(n.Shape), api.ErrForm)
	case 3:
		must(len(n.Bias) >= 1 && len(n.Bias) <= 64, api.ErrForm)
	case 4:
		must(len(n.Shape) == 4 && !slices.ContainsFunc(n.Shape, isBelow(1)) && !slices.ContainsFunc(n.Shape, isAbove(64)), api.ErrForm)
		must(big.NewInt(int64(len(n.Data))).Cmp(product(n.Shape)) == 0 && len(n.Bias) == n.Shape[0], api.ErrForm)
	case 5:
		must(n.Size >= 1, api.ErrForm)
	case 7:
		must(len(n.Data) == 1, api.ErrForm)
	case 8:
		must(len(n.Data) == 3, api.ErrForm)
	}
}

func (j *judge) shape(n api.Node) []int {
	switch n.Kind {
	case 1, 2:
		return n.Shape
	case 3:
		must(len(n.Data) == len(n.Bias)*entriesOf(j.shapes[n.A]), api.ErrShape)
		return []int{len(n.Bias)}
	case 4:
		a := j.shapes[n.A]
		must(len(a) == 3 && a[0] == n.Shape[1] && n.Shape[2] <= a[1] && n.Shape[3] <= a[2], api.ErrShape)
		shape := []int{n.Shape[0], a[1] - n.Shape[2] + 1, a[2] - n.Shape[3] + 1}
		must(entriesOf(shape) <= 64, api.ErrShape)
		return shape
	case 5:
		a := j.shapes[n.A]
		must(len(a) == 3 && a[1]/n.Size*n.Size == a[1] && a[2]/n.Size*n.Size == a[2], api.ErrShape)
		return []int{a[0], a[1] / n.Size, a[2] / n.Size}
	case 6:
		must(name(j.shapes[n.A]) == name(j.shapes[n.B]), api.ErrShape)
	case 9:
		must(entriesOf(n.Shape) == entriesOf(j.shapes[n.A]), api.ErrShape)
		return n.Shape
	}
	return j.shapes[n.A]
}

func (j *judge) numbers(n api.Node) {
	for _, v := range slices.Concat(n.Data, n.Bias, []int{n.Lo, n.Hi}) {
		must(v >= -1048576 && v <= 1048576, api.ErrRange)
	}
	must(n.Lo <= n.Hi, api.ErrRange)
}

// judged is what Check is to answer.
func judged(g api.Graph) (shapes [][]int, err api.Errno) {
	defer func() {
		if wrong, is := recover().(api.Errno); is {
			shapes, err = nil, wrong
		}
	}()
	j := &judge{g: g}
	must(len(g.Nodes) >= 1 && len(g.Nodes) <= 24 && g.Out >= 0 && g.Out < len(g.Nodes), api.ErrForm)
	for place, n := range g.Nodes {
		j.form(place, n)
		shape := j.shape(n)
		j.numbers(n)
		j.shapes = append(j.shapes, shape)
	}
	return j.shapes, api.OK
}

// name tells a row of numbers.
func name(row []int) string {
	var all []string
	for _, v := range row {
		all = append(all, strconv.Itoa(v))
	}
	return "[" + strings.Join(all, " ") + "]"
}

func sameShapes(a, b [][]int) bool { return slices.EqualFunc(a, b, slices.Equal[[]int]) }

// isAsJudged asks Check of a graph.
func isAsJudged(t *testing.T, what string, g api.Graph) api.Errno {
	t.Helper()
	want, wantErr := judged(g)
	got, err := graph.Check(g)
	if err != wantErr || !sameShapes(got, want) || err != api.OK && got != nil {
		t.Errorf("%s: got %v %v, want %v %v: %+v", what, got, err, want, wantErr, g)
	}
	return wantErr
}

// A judge that takes whatever there is would find nothing.
func TestJudge(t *testing.T) {
	for _, h := range handMade() {
		if shapes, err := judged(h.g); err != api.OK || !sameShapes(shapes, h.shapes) {
			t.Error(h.what, shapes, err)
		}
	}
}
