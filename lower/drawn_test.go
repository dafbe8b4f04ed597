package lower_test

import (
	"math"
	"slices"
	"testing"

	"arras/api"
	"arras/graph"
	"arras/interval"
	"arras/lower"
	"arras/vector"
)

// mixer tells words that look like chance, the same ones each time.
type mixer struct{ state uint64 }

func (x *mixer) next() uint64 {
	x.state += 0x9e3779b97f4a7c15
	z := x.state
	z = (z ^ z>>30) * 0xbf58476d1ce4e5b9
	z = (z ^ z>>27) * 0x94d049bb133111eb
	return z ^ z>>31
}

// below is a number below an end.
func (x *mixer) below(end int) int { return int(x.next() % uint64(end)) }

// from is a number of a span.
func (x *mixer) from(lo, hi int) int { return lo + x.below(hi-lo+1) }

// one is one of a row.
func one[Thing any](x *mixer, things ...Thing) Thing { return things[x.below(len(things))] }

// values are numbers that are small, many of them 0.
func (x *mixer) values(count int) []int {
	row := make([]int, count)
	size := one(x, 0, 1, 1, 2, 5, 40)
	for i := range row {
		row[i] = one(x, 0, x.from(-size, size), x.from(-size, size))
	}
	return row
}

// shape is one that may be, seldom one of many entries.
func (x *mixer) shape() []int {
	for {
		var shape []int
		for range one(x, 1, 2, 3, 3, 3) {
			shape = append(shape, 1+x.below(one(x, 2, 3, 4, 8, 20)))
		}
		if graph.Entries(shape) > 0 {
			return shape
		}
	}
}

// node is one that may stand behind nodes of these shapes.
func (x *mixer) node(nodes []api.Node, shapes [][]int) api.Node {
	for {
		n := x.anyNode(shapes)
		if len(nodes) > 0 && x.below(8) == 0 {
			n = one(x, nodes...)
		}
		if _, err := graph.Check(of(append(slices.Clone(nodes), n)...)); err == api.OK {
			return n
		}
	}
}

// anyNode is one that may be or not.
func (x *mixer) anyNode(shapes [][]int) api.Node {
	if len(shapes) == 0 || x.below(6) == 0 {
		shape := x.shape()
		if len(shapes) > 0 && x.below(2) == 0 {
			shape = one(x, shapes...)
		}
		if x.below(3) == 0 {
			return constant(shape, x.values(graph.Entries(shape))...)
		}
		ends := x.values(2)
		return input(slices.Min(ends), slices.Max(ends), shape...)
	}
	n := api.Node{Kind: one(x, 3, 4, 4, 5, 5, 5, 6, 7, 8, 9), A: x.below(len(shapes))}
	a := shapes[n.A]
	switch n.Kind {
	case api.KindDense:
		n.Bias = x.values(1 + x.below(one(x, 2, 6, 20)))
		n.Data = x.values(len(n.Bias) * graph.Entries(a))
	case api.KindConv:
		if len(a) == 3 {
			n.Shape = []int{1 + x.below(one(x, 2, 4)), a[0], 1 + x.below(a[1]), 1 + x.below(a[2])}
			n.Bias = x.values(n.Shape[0])
			n.Data = x.values(n.Shape[0] * n.Shape[1] * n.Shape[2] * n.Shape[3])
		}
	case api.KindPool:
		n.Size = one(x, 1, 2, 2, 3, 4)
	case api.KindAdd:
		n.B = x.below(len(shapes))
	case api.KindScale:
		n.Data = x.values(1)
	case api.KindPower:
		n.Data = x.values(3)
	case api.KindFlat:
		n.Shape = one(x, x.shape(), list(graph.Entries(a)), list(1, graph.Entries(a)), list(graph.Entries(a), 1, 1))
	}
	return n
}

// graph is one of so many nodes whose spans may be.
func (x *mixer) graph(count int) api.Graph {
	var g api.Graph
	var shapes [][]int
	for len(g.Nodes) < count {
		longer := api.Graph{Nodes: append(slices.Clip(g.Nodes), x.node(g.Nodes, shapes))}
		if _, err := interval.Spans(longer); err == api.OK {
			g = longer
			shapes, _ = graph.Check(g)
		}
	}
	g.Out = one(x, count-1, x.below(count))
	return g
}

// inputs are such as a graph asks for: the ends stand among them.
func (x *mixer) inputs(g api.Graph) [][]int {
	var rows [][]int
	for _, n := range g.Nodes {
		if n.Kind != api.KindInput {
			continue
		}
		row := make([]int, graph.Entries(n.Shape))
		for i := range row {
			row[i] = one(x, n.Lo, n.Hi, x.from(n.Lo, n.Hi), x.from(n.Lo, n.Hi))
		}
		rows = append(rows, row)
	}
	return rows
}

// great is a graph of many weights. All its numbers are 0: so its spans may be.
func (x *mixer) great() api.Graph {
	entries := x.from(20, 64)
	nodes := []api.Node{input(0, 0, entries), input(0, 0, 1, entries, 1)}
	for range x.from(4, 20) {
		rows := x.from(1, 64)
		heavy := dense(x.below(2), make([]int, rows), x.values(rows*entries))
		nodes = append(nodes, one(x, heavy, heavy, heavy, heavy, scaled(len(nodes)-1, 2), conv(1, list(1, 1, 3, 1), list(0), list(1, 2, 0))))
	}
	return out(x.below(len(nodes)), nodes...)
}

func (x *mixer) slots() int { return one(x, 4, 8, 16, 32, 64, 64, 128, 128, 256) }

// Drawn graphs, by all options.
func TestDrawnGraphs(t *testing.T) {
	x, kinds, told := &mixer{state: 1}, map[int]int{}, map[api.Errno]int{}
	for i := range 800 {
		g, slots := x.graph(1+i%api.MaxNodes), x.slots()
		if i%8 == 0 {
			g, slots = x.great(), one(x, 64, 128)
		}
		for _, o := range mixtures() {
			o.Lazy, o.Rows = x.below(2) == 0, one(x, 0, 16, x.wild())
			_, err := isAsJudged(t, g, o, slots)
			told[err]++
		}
		for _, n := range g.Nodes {
			kinds[n.Kind]++
		}
	}
	for kind := range 9 {
		if kinds[kind+1] < 150 {
			t.Error("too few of the kind", kind+1, kinds[kind+1])
		}
	}
	if told[api.OK] < 1500 || told[api.ErrFit] < 500 || told[api.ErrBig] < 20 || len(told) != 3 {
		t.Error("too few tries", told)
	}
}

// modulus is one that is greater than twice the greatest size of an end of a span: often by 1 alone.
func (x *mixer) modulus(t *testing.T, g api.Graph) uint64 {
	t.Helper()
	spans, err := interval.Spans(g)
	if err != api.OK {
		t.Fatal(err)
	}
	least := uint64(max(2*interval.Most(spans)+1, 2))
	return one(x, least, least, least+1, least+uint64(x.below(1000)), api.MaxT, 12289<<8)
}

// Whatever the options, Last's value has what the graph tells in Out's slots, and 0 in all others.
func TestItMeansTheSame(t *testing.T) {
	x, told := &mixer{state: 2}, map[api.Options]int{}
	isNotZero := 0
	for i := range 900 {
		g, slots := x.graph(1+i%12), one(x, 32, 64, 128, 256)
		inputs, m := x.inputs(g), x.modulus(t, g)
		want, err := interval.Run(g, inputs)
		if err != api.OK {
			t.Fatal(err)
		}
		for _, o := range mixtures() {
			v, err := lower.Lower(g, o, slots)
			if err == api.ErrFit || err == api.ErrBig {
				continue
			}
			tells(t, v, inputs, m, want)
			told[o]++
		}
		if slices.Max(want) > 0 || slices.Min(want) < 0 {
			isNotZero++
		}
	}
	for _, o := range mixtures() {
		if told[o] < 500 {
			t.Error("too few tries", told)
		}
	}
	if isNotZero < 500 {
		t.Error("too few tell something", isNotZero)
	}
}

// tells asks that a program tells these numbers in Out's slots, and 0 in all others.
func tells(t *testing.T, v api.Vectors, inputs [][]int, m uint64, numbers []int) {
	t.Helper()
	values, err := vector.Run(v, inputs, m)
	if err != api.OK || len(v.Out) != len(numbers) {
		t.Fatalf("%v %v: %+v of %v modulo %d", values, err, v, inputs, m)
	}
	row := make([]int, v.Slots)
	for entry, slot := range v.Out {
		row[slot] = numbers[entry]
	}
	if !slices.Equal(values[v.Last], row) {
		t.Errorf("%v, want %v: %+v of %v modulo %d", values[v.Last], row, v, inputs, m)
	}
}

// One node of each kind, in all slots from those that just suffice on.
func TestOneNodeMeansTheSame(t *testing.T) {
	x, count := &mixer{state: 3}, map[int]int{}
	for range 1500 {
		g := x.graph(2)
		g.Out = 1
		inputs, m := x.inputs(g), x.modulus(t, g)
		want, err := interval.Run(g, inputs)
		if err != api.OK {
			t.Fatal(err)
		}
		for _, slots := range allSlots()[:7] {
			for _, o := range mixtures() {
				if v, err := lower.Lower(g, o, slots); err == api.OK {
					tells(t, v, inputs, m, want)
					count[g.Nodes[1].Kind]++
				}
			}
		}
	}
	if len(count) != 9 {
		t.Error("not all kinds", count)
	}
	for kind, tries := range count {
		if tries < 500 {
			t.Error("too few tries", kind, count)
		}
	}
}

// A great graph in many slots.
func TestManySlots(t *testing.T) {
	x := &mixer{state: 4}
	for _, slots := range list(512, 1024, 2048) {
		for range 6 {
			g := x.graph(6)
			inputs, m := x.inputs(g), x.modulus(t, g)
			want, _ := interval.Run(g, inputs)
			for _, o := range mixtures() {
				v, err := isAsJudged(t, g, o, slots)
				if err != api.OK {
					t.Fatal(err)
				}
				tells(t, v, inputs, m, want)
			}
		}
	}
}

// turnsOf counts a program's turns.
func turnsOf(v api.Vectors) int {
	count := 0
	for _, n := range v.Code {
		if n.Op == api.OpTurn {
			count++
		}
	}
	return count
}

// By giant steps there are never more turns than the steps within a stride and the strides, if there are more than a few: never more than without them.
func TestTurnsByGiantSteps(t *testing.T) {
	x, fewer := &mixer{state: 5}, 0
	for range 1500 {
		shape := x.shape()
		rows := 1 + x.below(one(x, 4, 20, 64))
		g := of(input(0, 0, shape...), dense(0, make([]int, rows), x.values(rows*graph.Entries(shape))))
		slots, layout := one(x, 64, 128, 256, 1024), x.below(2)
		plainly, err := lower.Lower(g, api.Options{Layout: layout}, slots)
		if err == api.ErrFit {
			continue
		}
		giant, errGiant := lower.Lower(g, api.Options{Layout: layout, Giant: true}, slots)
		if err != api.OK || errGiant != api.OK {
			t.Fatal(err, errGiant)
		}
		stride := judgedStride(slots)
		most := stride - 1 + slots/stride - 1
		if turnsOf(giant) > most || turnsOf(plainly) >= most && turnsOf(giant) > turnsOf(plainly) {
			t.Error(turnsOf(giant), turnsOf(plainly), g)
		}
		if turnsOf(giant) < turnsOf(plainly) {
			fewer++
		}
	}
	if fewer < 500 {
		t.Error("too few take fewer turns", fewer)
	}
}

// Of a Dense of all weights there are as many turns as strides and steps: no fewer would do.
func TestTurnsOfAllWeights(t *testing.T) {
	for _, h := range []struct{ slots, entries, turns, plainly int }{{4, 4, 2, 3}, {8, 8, 4, 7}, {16, 16, 6, 15}, {32, 32, 10, 31}, {64, 64, 14, 63}} {
		g := of(input(0, 0, h.entries), dense(0, make([]int, h.entries), slices.Repeat(list(1), h.entries*h.entries)))
		giant, err := lower.Lower(g, api.Options{Giant: true}, h.slots)
		plainly, errPlainly := lower.Lower(g, api.Options{}, h.slots)
		if err != api.OK || errPlainly != api.OK || turnsOf(giant) != h.turns || turnsOf(plainly) != h.plainly {
			t.Error(h, err, errPlainly, turnsOf(giant), turnsOf(plainly))
		}
	}
}

// wild is a number of any size.
func (x *mixer) wild() int {
	return one(x, 0, 1, 2, -1, 3, 4, 8, 64, 2048, 4096, api.MaxValue, api.MaxValue+1, math.MaxInt, math.MinInt, 1<<32, 1<<32+1, int(x.next()))
}

func (x *mixer) wildRow() []int {
	var row []int
	for range x.below(5) {
		row = append(row, one(x, 1, 1, 2, x.wild()))
	}
	return row
}

// The call answers at all arguments.
func TestWildArguments(t *testing.T) {
	x, told := &mixer{state: 6}, map[api.Errno]int{}
	for range 20000 {
		few := func() int { return one(x, 0, 0, 0, 1, x.wild()) }
		g := api.Graph{Out: few()}
		for range x.below(27) {
			wild := api.Node{Kind: x.below(11), A: few(), B: few(), Shape: x.wildRow(), Lo: few(), Hi: few(), Size: few(), Data: x.wildRow(), Bias: x.wildRow()}
			g.Nodes = append(g.Nodes, one(x, wild, input(0, 1, 1), constant([]int{1}, one(x, 1, few())), sum(0, few()), scaled(0, few()), power(0, few(), few(), few())))
		}
		o := api.Options{Layout: one(x, 0, 1, 0, 1, x.wild()), Tidy: x.below(2) > 0, Lazy: x.below(2) > 0, Giant: x.below(2) > 0, Rows: x.wild()}
		_, err := isAsJudged(t, g, o, one(x, 4, 8, 4, x.wild()))
		told[err]++
	}
	if told[api.OK] < 100 || told[api.ErrArg] < 1000 || told[api.ErrForm] < 100 || told[api.ErrRange] < 50 {
		t.Error("too few tries", told)
	}
}

// Graphs of which something was put otherwise.
func TestSpoiltGraphs(t *testing.T) {
	x, told := &mixer{state: 7}, map[api.Errno]int{}
	for i := range 3000 {
		g, o := x.graph(1+i%6), one(x, mixtures()...)
		for range 3 {
			_, err := isAsJudged(t, x.spoilt(g), o, one(x, x.slots(), 128))
			told[err]++
		}
	}
	if told[api.OK] < 1000 || told[api.ErrForm] < 1000 || told[api.ErrShape] < 100 || told[api.ErrRange] < 100 || told[api.ErrFit] < 100 {
		t.Error("too few tries", told)
	}
}

// spoilt is a graph of which one number is another one.
func (x *mixer) spoilt(g api.Graph) api.Graph {
	g.Nodes = slices.Clone(g.Nodes)
	all := []*int{&g.Out}
	for i := range g.Nodes {
		n := &g.Nodes[i]
		n.Shape, n.Data, n.Bias = slices.Clone(n.Shape), slices.Clone(n.Data), slices.Clone(n.Bias)
		all = append(all, &n.Kind, &n.A, &n.B, &n.Lo, &n.Hi, &n.Size)
		for _, row := range [][]int{n.Shape, n.Data, n.Bias} {
			if len(row) > 0 {
				all = append(all, &row[x.below(len(row))])
			}
		}
	}
	number := one(x, all...)
	*number = one(x, *number+1, *number-1, x.wild(), *number<<6)
	return g
}
