package graph_test

import (
	"math"
	"slices"
	"strconv"
	"testing"

	"arras/api"
	"arras/graph"
)

// The node that is put otherwise stands at this place: behind shapes of 1 to 3 numbers, ahead of a node that may be.
const (
	onePlace   = 0 // of shape 6
	twoPlace   = 1 // of shape 2 3
	threePlace = 2 // of shape 2 4 6
	twicePlace = 3 // of shape 2 3
	place      = 4
)

// fault is a thing of a node that may not be.
type fault struct {
	what string
	err  api.Errno
	make func(n *api.Node)
}

// around is a graph in which a node stands among others.
func around(n api.Node) api.Graph {
	return of(input(6), input(2, 3), input(2, 4, 6), constant(1, 2, 3), n, input(1))
}

// wrong is a graph in which there are faults in the node.
func wrong(n api.Node, faults ...fault) api.Graph {
	g := cloned(around(n))
	for _, f := range faults {
		f.make(&g.Nodes[place])
	}
	return g
}

// rights are nodes of all kinds that may stand at the place.
func rights() []api.Node {
	return []api.Node{
		input(2, 3),
		constant(4, 2, 3),
		dense(onePlace, 2, 6),
		conv(threePlace, 3, 2, 2, 3),
		pool(threePlace, 2),
		add(twoPlace, twicePlace),
		scaled(twoPlace, 3),
		power(twoPlace, 1, 2, 3),
		flat(twoPlace, 6),
	}
}

// isHad asks whether a kind has a field.
func isHad(kind int, field string) bool {
	return slices.Contains([][]string{
		{"Shape", "Ends"}, {"Shape", "Data"}, {"A", "Data", "Bias"}, {"A", "Shape", "Data", "Bias"}, {"A", "Size"}, {"A", "B"}, {"A", "Data"}, {"A", "Data"}, {"A", "Shape"},
	}[kind-1], field)
}

func farNumbers() []int {
	return []int{-1, -2, 1 << 31, 1 << 32, -1 << 32, 1<<32 + 1, 1 << 62, math.MaxInt, math.MinInt, math.MinInt + 1}
}

// otherKinds are faults of the kind.
func otherKinds() []fault {
	var list []fault
	for _, kind := range append(farNumbers(), 0, 10, 11, 255, 256, 257, 1<<32+3) {
		list = append(list, fault{"kind " + strconv.Itoa(kind), api.ErrForm, func(n *api.Node) { n.Kind = kind }})
	}
	return list
}

// notHad are fields that the kind doesn't have, each by itself.
func notHad(kind int) []fault {
	numbers := append(farNumbers(), 1, 2)
	var list []fault
	add := func(field string, set func(n *api.Node, v int)) {
		for _, v := range numbers {
			if !isHad(kind, field) {
				list = append(list, fault{"has " + field + " " + strconv.Itoa(v), api.ErrForm, func(n *api.Node) { set(n, v) }})
			}
		}
	}
	add("A", func(n *api.Node, v int) { n.A = v })
	add("B", func(n *api.Node, v int) { n.B = v })
	add("Ends", func(n *api.Node, v int) { n.Lo = v })
	add("Ends", func(n *api.Node, v int) { n.Hi = v })
	add("Ends", func(n *api.Node, v int) { n.Lo, n.Hi = min(v, 1), max(v, 1) })
	add("Size", func(n *api.Node, v int) { n.Size = v })
	numbers = append(numbers, 0)
	add("Shape", func(n *api.Node, v int) { n.Shape = []int{v} })
	add("Data", func(n *api.Node, v int) { n.Data = []int{v} })
	add("Bias", func(n *api.Node, v int) { n.Bias = []int{v, 0, 1} })
	return list
}

// notAhead are A and B that are the node itself, behind it, below 0 or nowhere.
func notAhead(kind int) []fault {
	var list []fault
	for _, node := range append(farNumbers(), place, place+1, place+2, api.MaxNodes) {
		if isHad(kind, "A") {
			list = append(list, fault{"A " + strconv.Itoa(node), api.ErrForm, func(n *api.Node) { n.A = node }})
		}
		if isHad(kind, "B") {
			list = append(list, fault{"B " + strconv.Itoa(node), api.ErrForm, func(n *api.Node) { n.B = node }})
		}
	}
	return list
}

// noShapes are such as may not be of a tensor.
func noShapes() [][]int {
	return [][]int{nil, {}, {0}, {-1}, {65}, {6, 0}, {0, 6}, {6, 1, 0}, {-6}, {-2, -3}, {6, -1}, {1, 1, 1, 6}, {6, 1, 1, 1}, {2, 3, 1, 1, 1}, {2, 33}, {9, 8}, {8, 9}, {2, 3, 11}, {5, 13, 1}, {5, 5, 5}, {66, 1, 1}, {64, 2},
		{1 << 32, 1 << 32}, {1 << 31, 1 << 33}, {1 << 62, 4}, {1<<63 - 1, 2}, {1<<32 + 1, 1<<32 + 1}, {6, 1 << 62, 4}, {3, 6148914691236517206}, {1 << 22, 1 << 21, 1 << 21}, {math.MinInt}, {math.MinInt, 2}, {math.MinInt, math.MinInt}, {math.MaxInt, math.MaxInt, math.MaxInt}}
}

func shapeFault(shape []int) fault {
	return fault{"shape " + name(shape), api.ErrForm, func(n *api.Node) { n.Shape = slices.Clone(shape) }}
}

// countFault is another number of Data or Bias.
func countFault(what string, err api.Errno, list func(n *api.Node) *[]int, counts ...int) []fault {
	var faults []fault
	for _, count := range counts {
		faults = append(faults, fault{what + " " + strconv.Itoa(count), err, func(n *api.Node) { *list(n) = make([]int, count) }})
	}
	return faults
}

func data(n *api.Node) *[]int { return &n.Data }

func bias(n *api.Node) *[]int { return &n.Bias }

// notTold are a Shape, a Size and numbers of Data or Bias that aren't as told.
func notTold(kind int) []fault {
	var list []fault
	if kind == api.KindInput || kind == api.KindConst || kind == api.KindFlat {
		for _, shape := range noShapes() {
			list = append(list, shapeFault(shape))
		}
	}
	switch kind {
	case api.KindConst:
		list = append(list, countFault("Data", api.ErrForm, data, 0, 1, 2, 5, 7, 64)...)
		for _, shape := range [][]int{{5}, {7}, {2, 4}, {3, 3}, {1}} {
			list = append(list, shapeFault(shape))
		}
	case api.KindDense:
		list = append(list, countFault("Bias", api.ErrForm, bias, 0, 65, 66, 128)...)
	case api.KindConv:
		list = append(list, countFault("Data", api.ErrForm, data, 0, 1, 35, 37, 72)...)
		list = append(list, countFault("Bias", api.ErrForm, bias, 0, 1, 2, 4, 6)...)
		for _, shape := range [][]int{nil, {}, {36}, {3, 12}, {3, 2, 6}, {3, 2, 2, 3, 1}, {1, 3, 2, 2, 3}, {2, 2, 2, 3}, {4, 2, 2, 3}, {3, 1, 2, 3}, {3, 2, 2, 2}, {3, 2, 3, 3}, {3, 0, 2, 3}, {3, 2, -2, -3}, {-3, -2, 2, 3}, {3, 2, 0, 0}, {3, 65, 1, 1}, {3, 2, 2, 3 + 1<<32}, {3, 1 << 32, 1 << 32, 12}, {3, 1 << 62, 4, 1}, {3, math.MinInt, 2, 1}} {
			list = append(list, shapeFault(shape))
		}
	case api.KindPool:
		for _, size := range append(farNumbers()[:2], 0, -4, -1<<32, math.MinInt) {
			list = append(list, fault{"size " + strconv.Itoa(size), api.ErrForm, func(n *api.Node) { n.Size = size }})
		}
	case api.KindScale:
		list = append(list, countFault("Data", api.ErrForm, data, 0, 2, 3, 6)...)
	case api.KindPower:
		list = append(list, countFault("Data", api.ErrForm, data, 0, 1, 2, 4, 6)...)
	}
	return list
}

// kernel is a Conv's of such a shape, with all that it has.
func kernel(shape ...int) fault {
	return fault{"kernel " + name(shape), api.ErrShape, func(n *api.Node) {
		n.Shape, n.Data, n.Bias = slices.Clone(shape), make([]int, entriesOf(shape)), make([]int, shape[0])
	}}
}

// of another A, which is ahead and doesn't go with the node.
func ofA(node int) fault {
	return fault{"of " + strconv.Itoa(node), api.ErrShape, func(n *api.Node) { n.A = node }}
}

// unlike are shapes that don't go together.
func unlike(kind int) []fault {
	switch kind {
	case api.KindDense:
		list := append(countFault("Data", api.ErrShape, data, 0, 1, 2, 6, 11, 13, 18), countFault("Bias", api.ErrShape, bias, 1, 3, 6, 12, 64)...)
		return append(list, ofA(threePlace))
	case api.KindConv:
		return []fault{ofA(onePlace), ofA(twoPlace), kernel(3, 1, 2, 3), kernel(3, 3, 2, 2), kernel(3, 4, 2, 3), kernel(3, 6, 1, 1), kernel(3, 2, 5, 3), kernel(3, 2, 2, 7), kernel(3, 2, 5, 6), kernel(3, 2, 6, 4), kernel(3, 2, 64, 1), kernel(3, 2, 1, 64), kernel(64, 2, 1, 1), kernel(3, 2, 1, 1), kernel(6, 2, 2, 3), kernel(64, 2, 4, 5), kernel(33, 2, 3, 6)}
	case api.KindPool:
		list := []fault{ofA(onePlace), ofA(twoPlace)}
		for _, size := range []int{3, 4, 5, 6, 7, 8, 12, 24, 48, 64, 1 << 31, 1 << 32, 1<<32 + 2, 1 << 62, math.MaxInt} {
			list = append(list, fault{"size " + strconv.Itoa(size), api.ErrShape, func(n *api.Node) { n.Size = size }})
		}
		return list
	case api.KindAdd:
		otherB := func(node int) fault {
			return fault{"with " + strconv.Itoa(node), api.ErrShape, func(n *api.Node) { n.B = node }}
		}
		return []fault{ofA(onePlace), ofA(threePlace), otherB(onePlace), otherB(threePlace)}
	case api.KindFlat:
		list := []fault{ofA(threePlace)}
		for _, shape := range [][]int{{1}, {5}, {7}, {2, 2}, {4, 2}, {1, 5, 1}, {64}, {12}, {2, 3, 2}, {1, 1, 1}} {
			f := shapeFault(shape)
			f.err = api.ErrShape
			list = append(list, f)
		}
		return list
	}
	return nil
}

// putFirst and putLast put a number into a list, if another fault has left any there.
func putFirst(list []int, v int) {
	if len(list) > 0 {
		list[0] = v
	}
}

func putLast(list []int, v int) {
	if len(list) > 0 {
		list[len(list)-1] = v
	}
}

// beyond are numbers beyond what may be said of them.
func beyond(kind int) []fault {
	var list []fault
	for _, v := range append(farNumbers()[2:], api.MaxValue+1, -api.MaxValue-1, api.MaxValue+2, 2*api.MaxValue, -2*api.MaxValue) {
		ending := " " + strconv.Itoa(v)
		if kind == api.KindInput {
			list = append(list,
				fault{"Lo" + ending, api.ErrRange, func(n *api.Node) { n.Lo = v }},
				fault{"Hi" + ending, api.ErrRange, func(n *api.Node) { n.Hi = v }},
				fault{"Lo and Hi" + ending, api.ErrRange, func(n *api.Node) { n.Lo, n.Hi = v, v }})
		}
		if isHad(kind, "Data") {
			list = append(list,
				fault{"first of Data" + ending, api.ErrRange, func(n *api.Node) { putFirst(n.Data, v) }},
				fault{"last of Data" + ending, api.ErrRange, func(n *api.Node) { putLast(n.Data, v) }})
		}
		if isHad(kind, "Bias") {
			list = append(list,
				fault{"first of Bias" + ending, api.ErrRange, func(n *api.Node) { putFirst(n.Bias, v) }},
				fault{"last of Bias" + ending, api.ErrRange, func(n *api.Node) { putLast(n.Bias, v) }})
		}
	}
	if kind == api.KindInput {
		for _, ends := range [][2]int{{1, 0}, {3, 2}, {-2, -3}, {0, -1}, {1, -1}, {api.MaxValue, api.MaxValue - 1}, {api.MaxValue, -api.MaxValue}, {math.MaxInt, math.MinInt}} {
			list = append(list, fault{"ends " + name(ends[:]), api.ErrRange, func(n *api.Node) { n.Lo, n.Hi = ends[0], ends[1] }})
		}
	}
	return list
}

// faultsOf are all of a kind, in the chapter's order.
func faultsOf(kind int) []fault {
	return slices.Concat(otherKinds(), notHad(kind), notAhead(kind), notTold(kind), unlike(kind), beyond(kind))
}

func refused(t *testing.T, what string, g api.Graph, want api.Errno) {
	t.Helper()
	if shapes, err := graph.Check(g); err != want || shapes != nil {
		t.Error(what, shapes, err, want)
	}
}

func kindName(n api.Node) string { return "kind " + strconv.Itoa(n.Kind) + ": " }

func TestRightNodes(t *testing.T) {
	for _, n := range rights() {
		if err := isAsJudged(t, kindName(n), around(n)); err != api.OK {
			t.Error(kindName(n), err)
		}
	}
}

func TestOneFault(t *testing.T) {
	for _, n := range rights() {
		for _, f := range faultsOf(n.Kind) {
			refused(t, kindName(n)+f.what, wrong(n, f), f.err)
		}
	}
}

// fewFaults are some of a kind: enough of each sort for all pairs.
func fewFaults(kind int) []fault {
	var list []fault
	for _, sort := range [][]fault{otherKinds(), notHad(kind), notAhead(kind), notTold(kind), unlike(kind), beyond(kind)} {
		step := max(len(sort)/7, 1)
		for i := 0; i < len(sort); i += step {
			list = append(list, sort[i])
		}
	}
	return list
}

// Of two faults in a node the one that is named first counts, in whichever order they were made.
func TestTwoFaultsInANode(t *testing.T) {
	told := map[[3]api.Errno]int{}
	for _, n := range rights() {
		few := fewFaults(n.Kind)
		for i, f := range few {
			for _, other := range few[i+1:] {
				for _, pair := range [][]fault{{f, other}, {other, f}} {
					g := wrong(n, pair...)
					err := isAsJudged(t, kindName(n)+pair[0].what+", "+pair[1].what, g)
					told[[3]api.Errno{min(f.err, other.err), max(f.err, other.err), err}]++
				}
			}
		}
	}
	for _, pair := range [][2]api.Errno{{api.ErrForm, api.ErrForm}, {api.ErrForm, api.ErrShape}, {api.ErrForm, api.ErrRange}, {api.ErrShape, api.ErrShape}, {api.ErrShape, api.ErrRange}, {api.ErrRange, api.ErrRange}} {
		if told[[3]api.Errno{pair[0], pair[1], pair[0]}] < 20 {
			t.Error("too few tries", pair)
		}
	}
}

// The first node that is wrong counts, whatever its error is.
func TestTwoFaultsInTwoNodes(t *testing.T) {
	for _, n := range rights() {
		for _, f := range fewFaults(n.Kind) {
			for _, other := range []struct {
				node api.Node
				err  api.Errno
			}{
				{api.Node{}, api.ErrForm}, {api.Node{Kind: api.KindInput}, api.ErrForm}, {add(place+2, 0), api.ErrForm},
				{dense(onePlace, 2, 5), api.ErrShape}, {pool(onePlace, 1), api.ErrShape}, {add(onePlace, twoPlace), api.ErrShape},
				{constant(api.MaxValue+1, 1), api.ErrRange}, {api.Node{Kind: api.KindInput, Shape: []int{1}, Lo: 1}, api.ErrRange},
			} {
				g := wrong(n, f)
				g.Nodes[place+1] = other.node
				refused(t, kindName(n)+f.what+" ahead", g, f.err)
				g = wrong(n, f)
				g.Nodes[threePlace] = other.node
				refused(t, kindName(n)+f.what+" behind", g, other.err)
			}
		}
	}
}

func TestNoNodes(t *testing.T) {
	for _, out := range append(farNumbers(), 0, 1) {
		refused(t, "nil", api.Graph{Out: out}, api.ErrForm)
		refused(t, "none", api.Graph{Nodes: []api.Node{}, Out: out}, api.ErrForm)
	}
}

func TestTooManyNodes(t *testing.T) {
	for _, count := range []int{api.MaxNodes + 1, api.MaxNodes + 2, 2 * api.MaxNodes, 256, 257, 1 << 16} {
		for _, out := range []int{0, 1, count - 1, count, -1} {
			refused(t, "right ones", api.Graph{Nodes: slices.Repeat([]api.Node{input(1)}, count), Out: out}, api.ErrForm)
			refused(t, "far ones", api.Graph{Nodes: slices.Repeat([]api.Node{constant(api.MaxValue+1, 1)}, count), Out: out}, api.ErrForm)
		}
	}
}

// An Out that is none is ahead of all that is wrong with nodes.
func TestNoOut(t *testing.T) {
	for _, first := range []api.Node{input(2), dense(0, 1, 1), {}, {Kind: api.KindInput, Shape: []int{1}, Lo: 1}, constant(api.MaxValue+1, 1)} {
		g := of(first, input(2), add(0, 1), constant(api.MaxValue+1, 2))
		for _, out := range append(farNumbers(), 4, 5, api.MaxNodes) {
			g.Out = out
			refused(t, "Out "+strconv.Itoa(out), g, api.ErrForm)
		}
	}
}

// The first node has nothing ahead of it.
func TestFirstNode(t *testing.T) {
	for _, n := range rights() {
		for node := -1; node <= 1; node++ {
			first, want := n, api.ErrForm
			first.A, first.B = node, 0
			if isHad(n.Kind, "B") {
				first.B = node
			}
			if node == 0 && n.Kind <= api.KindConst {
				want = api.OK
			}
			for _, g := range []api.Graph{of(first), of(first, input(1))} {
				if err := isAsJudged(t, kindName(n), g); err != want {
					t.Error(kindName(n), node, err, want)
				}
			}
		}
	}
}
