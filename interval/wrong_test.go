package interval_test

import (
	"math"
	"slices"
	"strconv"
	"testing"

	"arras/api"
	"arras/graph"
	"arras/interval"
)

// refuses holds both calls against a graph's error, whatever Out is and whatever inputs there are.
func refuses(t *testing.T, what string, g api.Graph, want api.Errno) {
	t.Helper()
	if spans, err := interval.Spans(g); spans != nil || err != want {
		t.Error("Spans", what, spans, err, want)
	}
	for _, inputs := range [][][]int{nil, {}, {{}}, {{0}}, {{0}, {0}}, {{1, 1}, {0, 0}}} {
		if numbers, err := interval.Run(g, inputs); numbers != nil || err != want {
			t.Error("Run", what, inputs, numbers, err, want)
		}
	}
}

func overOut(g api.Graph, do func(g api.Graph)) {
	for out := range g.Nodes {
		do(api.Graph{Nodes: g.Nodes, Out: out})
	}
}

// ending is a graph whose last node has this end.
type ending struct {
	what string
	end  int
	g    api.Graph
}

// endings are just at MaxValue and just beyond it, as far as the kind comes.
func endings() []ending {
	bit, great := input(0, 1, 1, 2, 2), input(0, most, 1, 2, 2)
	list := []ending{
		{"input", most, of(input(0, most, 1))},
		{"input", -most, of(input(-most, -most, 1))},
		{"constant", most, of(constant([]int{3}, 0, most, 1))},
		{"constant", -most, of(constant([]int{3}, 0, -most, 1))},
		{"flat", most, of(great, flat(0, 4))},
		{"pool", most, of(input(0, most/4, 1, 2, 2), pool(0, 2))},
		{"pool", -most, of(input(-most/4, 0, 1, 2, 2), pool(0, 2))},
		{"pool", most + 4, of(input(0, most/4+1, 1, 2, 2), pool(0, 2))},
		{"pool", -most - 4, of(input(-most/4-1, 0, 1, 2, 2), pool(0, 2))},
		{"pool of unlike numbers", 4 * (most/4 + 1), of(constant([]int{1, 2, 2}, 0, most/4+1, 0, 0), pool(0, 2))},
		{"pool of one", most, of(great, pool(0, 1))},
		{"scale", most, of(bit, scaled(0, most))},
		{"scale", -most, of(bit, scaled(0, -most))},
		{"scale", most + 1, of(input(0, 61681, 1), scaled(0, 17))},
		{"scale", -most - 1, of(input(0, 61681, 1), scaled(0, -17))},
		{"scale", most + 1, of(input(-17, 0, 1), scaled(0, -61681))},
		{"power", most, of(input(0, 1024, 1), power(0, 0, 0, 1))},
		{"power", most, of(input(-1024, 1024, 1), power(0, -1024, 1, 1))},
		{"power", most + 1, of(input(-1024, 1024, 1), power(0, -1023, 1, 1))},
		{"power at its turning point", -most, of(input(-5, 5, 1), power(0, -most+1, 2, 1))},
		{"power at its turning point", -most - 1, of(input(-5, 5, 1), power(0, -most, 2, 1))},
		{"power at its turning point", most, of(input(-5, 5, 1), power(0, most-4, 4, -1))},
		{"power at its turning point", most + 1, of(input(-5, 5, 1), power(0, most-3, 4, -1))},
		{"power between two numbers", -most, of(input(-5, 5, 1), power(0, -most, 1, 1))},
		{"power between two numbers", -most - 1, of(input(-5, 5, 1), power(0, -most+1, 3, 1))},
	}
	for more := range 2 {
		for _, sign := range []int{1, -1} {
			end, rest := sign*(most+more), sign*more
			list = append(list,
				ending{"dense", end, of(bit, dense(0, []int{rest}, []int{sign * most, 0, 0, 0}))},
				ending{"dense", end, of(bit, dense(0, []int{0, 0}, []int{0, 0, 0, 0, rest, sign * most, 0, 0}))},
				ending{"dense of both ends", end, of(input(-1, 1, 2), dense(0, []int{rest}, []int{sign, sign - sign*most}))},
				ending{"conv", end, of(bit, conv(0, []int{1, 1, 1, 2}, []int{rest}, []int{0, sign * most}))},
				ending{"conv", end, of(bit, conv(0, []int{2, 1, 2, 2}, []int{0, rest}, []int{0, 0, 0, 0, 0, sign, 0, sign*most - sign}))},
				ending{"add", end, of(bit, scaled(0, sign*most), constant([]int{1, 2, 2}, 0, rest, 0, 0), add(1, 2))},
				ending{"add", end, of(constant([]int{1}, sign*most/2), constant([]int{1}, sign*most/2+rest), add(0, 1))},
				ending{"power", end, of(input(0, 1024, 1), power(0, rest, 0, sign))},
				ending{"power without a square", end, of(bit, power(0, rest, sign*most, 0))},
				ending{"power of a span of one", end, of(input(3, 3, 1), power(0, sign*(most-3)+rest, sign, 0))})
		}
	}
	return list
}

// An end may be MaxValue in size, not more.
func TestEndings(t *testing.T) {
	for _, x := range endings() {
		what := x.what + " " + strconv.Itoa(x.end)
		isBeyond := x.end > most || x.end < -most
		overOut(x.g, func(g api.Graph) {
			if isBeyond {
				refuses(t, what, g, api.ErrRange)
				return
			}
			spans, err := interval.Spans(g)
			if err != api.OK {
				t.Error(what, err)
				return
			}
			if last := spans[len(spans)-1]; last.Lo != x.end && last.Hi != x.end {
				t.Error(what, last)
			}
		})
		if _, err := interval.Spans(api.Graph{Nodes: x.g.Nodes[:len(x.g.Nodes)-1]}); isBeyond && err != api.OK {
			t.Error("beyond too early", what)
		}
	}
}

// Such as would come to small numbers again, were they but reckoned on.
func TestFarBeyond(t *testing.T) {
	great := input(-most, most, 64)
	all := slices.Repeat([]int{most}, 64)
	for what, g := range map[string]api.Graph{
		"scales":          of(input(1, 1, 1), scaled(0, most), scaled(1, most), scaled(2, most), scaled(3, most)),
		"squares":         of(input(-most, most, 1), power(0, most, most, most), power(1, most, most, most), power(2, 0, 0, 0)),
		"squares below 0": of(input(-most, most, 1), power(0, -most, -most, -most), scaled(1, 0)),
		"square of 2":     of(input(2, 2, 1), power(0, 0, 0, 1<<19), power(1, 0, 0, 1), power(2, 0, 0, 1), power(3, 0, 0, 1)),
		"rows":            of(great, dense(0, all, slices.Repeat(all, 64)), dense(1, all, slices.Repeat(all, 64)), dense(2, all, slices.Repeat(all, 64))),
		"rows and none":   of(great, dense(0, []int{most}, all), scaled(1, 0)),
		"sums":            of(great, add(0, 0), add(1, 1), add(2, 2)),
		"less again":      of(great, add(0, 0), scaled(0, -1), add(1, 2)),
		"squares summed":  of(input(-most, most, 1, 8, 8), pool(0, 8), power(1, 0, 0, 1)),
		"kernels":         of(input(-most, most, 1, 8, 8), conv(0, []int{64, 1, 8, 8}, all, slices.Repeat(all, 64)), conv(1, []int{64, 64, 1, 1}, all, slices.Repeat(all, 64))),
	} {
		overOut(g, func(g api.Graph) { refuses(t, what, g, api.ErrRange) })
	}
}

// noGraphs are refused by layer 16, each with its own error, whatever is beyond MaxValue ahead of what is wrong.
func noGraphs() map[string]api.Graph {
	beyond := []api.Node{input(0, 1, 1), scaled(0, most), add(1, 1)}
	behind := func(n api.Node) api.Graph { return of(append(slices.Clone(beyond), n)...) }
	return map[string]api.Graph{
		"none":             {},
		"too many":         of(slices.Repeat(beyond[:1], api.MaxNodes+1)...),
		"no Out":           {Nodes: beyond, Out: 3},
		"Out below 0":      {Nodes: beyond, Out: -1},
		"no kind":          behind(api.Node{}),
		"no input":         behind(api.Node{Kind: api.KindInput}),
		"A itself":         behind(scaled(3, 1)),
		"A below 0":        behind(power(-1, 1, 1, 1)),
		"B far":            behind(add(0, math.MaxInt)),
		"no numbers":       behind(constant([]int{2}, 1)),
		"no bias":          behind(dense(0, nil, []int{1})),
		"no kernel":        behind(conv(0, []int{1, 1, 1}, []int{1}, []int{1})),
		"no size":          behind(pool(0, 0)),
		"no picture":       behind(pool(0, 1)),
		"rows too long":    behind(dense(0, []int{1}, []int{1, 1})),
		"no rows":          behind(dense(0, []int{1}, nil)),
		"no channels":      behind(conv(0, []int{1, 1, 1, 1}, []int{1}, []int{1})),
		"unlike":           of(append(slices.Clone(beyond), input(0, 1, 2), add(2, 3))...),
		"too many entries": behind(flat(0, 2)),
		"great weight":     behind(scaled(0, most+1)),
		"great number":     behind(constant([]int{1}, math.MinInt)),
		"Lo above Hi":      behind(input(1, 0, 1)),
		"great Hi":         behind(input(0, math.MaxInt, 1)),
	}
}

func TestGraphsThatMayNotBe(t *testing.T) {
	told := map[api.Errno]int{}
	for what, g := range noGraphs() {
		_, err := graph.Check(g)
		told[err]++
		refuses(t, what, g, err)
	}
	if told[api.ErrForm] < 10 || told[api.ErrShape] < 4 || told[api.ErrRange] < 4 || told[api.OK] > 0 {
		t.Error("too few tries", told)
	}
}

// refusesInputs holds Run against ErrInput, whichever node comes out.
func refusesInputs(t *testing.T, what string, g api.Graph, inputs [][]int) {
	t.Helper()
	overOut(g, func(g api.Graph) {
		if numbers, err := interval.Run(g, inputs); numbers != nil || err != api.ErrInput {
			t.Error(what, g.Out, numbers, err)
		}
	})
}

// asked has three inputs of unlike ends and shapes; no Out needs them all.
func asked() api.Graph {
	return of(input(-2, 3, 2), scaled(0, 2), input(5, 5, 1, 1, 1), constant([]int{2}, 7, 8), input(-most, most, 3, 1), flat(4, 3), constant([]int{1}, 1))
}

func rightInputs() [][]int { return [][]int{{-2, 3}, {5}, {most, -most, 0}} }

func TestInputsThatMayBe(t *testing.T) {
	x := &mixer{state: 4}
	g := asked()
	if isAsPlain(t, x, g) != api.OK {
		t.Error("refused")
	}
	for out, want := range [][]int{{-2, 3}, {-4, 6}, {5}, {7, 8}, {most, -most, 0}, {most, -most, 0}, {1}} {
		g.Out = out
		tells(t, g, rightInputs(), want...)
	}
}

func TestWrongCounts(t *testing.T) {
	right, g := rightInputs(), asked()
	for what, inputs := range map[string][][]int{
		"nil":                {},
		"no rows":            nil,
		"a row":              right[:1],
		"two rows":           right[:2],
		"the last rows":      right[1:],
		"a row more":         append(rightInputs(), []int{1}),
		"an empty row more":  append(rightInputs(), []int{}),
		"a nil row more":     append(rightInputs(), nil),
		"a row for a node":   {right[0], {1, 1}, right[1], {7, 8}, right[2]},
		"two of them":        append(rightInputs(), rightInputs()...),
		"in another order":   {right[1], right[0], right[2]},
		"the last one first": {right[2], right[0], right[1]},
	} {
		refusesInputs(t, what, g, inputs)
	}
	for place, row := range right {
		for what, other := range map[string][]int{
			"nil":          nil,
			"empty":        {},
			"shorter":      row[:len(row)-1],
			"longer":       append(slices.Clone(row), row[0]),
			"much longer":  slices.Repeat(row, 40),
			"far too long": make([]int, 1<<16),
		} {
			inputs := rightInputs()
			inputs[place] = other
			refusesInputs(t, what+" row "+strconv.Itoa(place), g, inputs)
		}
	}
}

func TestNumbersBeyondEnds(t *testing.T) {
	g := asked()
	ends := []api.Span{{Lo: -2, Hi: 3}, {Lo: 5, Hi: 5}, {Lo: -most, Hi: most}}
	for row, span := range ends {
		for at := range rightInputs()[row] {
			for _, v := range []int{span.Lo - 1, span.Hi + 1, span.Lo - 2, span.Hi + 2, math.MinInt, math.MaxInt, 1 << 32, -1 << 32, span.Hi + 1<<32} {
				inputs := rightInputs()
				inputs[row][at] = v
				refusesInputs(t, "number "+strconv.Itoa(v), g, inputs)
			}
			for _, v := range []int{span.Lo, span.Hi} {
				inputs := rightInputs()
				inputs[row][at] = v
				overOut(g, func(g api.Graph) { tells(t, g, inputs, plainOf(g).numbers(inputs)[g.Out]...) })
			}
		}
	}
}

// A graph without inputs asks for none, nil or empty.
func TestNoInputs(t *testing.T) {
	g := of(constant([]int{2}, 3, 4), power(0, 1, 0, 1))
	tells(t, g, nil, 10, 17)
	tells(t, g, [][]int{}, 10, 17)
	for what, inputs := range map[string][][]int{"a nil row": {nil}, "an empty row": {{}}, "a row": {{3, 4}}, "rows": {{}, {}}} {
		refusesInputs(t, what, g, inputs)
	}
}

// wild is a number of any size.
func (x *mixer) wild() int {
	return one(x, 0, 1, 2, -1, 3, 64, most, -most, most+1, math.MaxInt, math.MinInt, 1<<32, int(x.next()))
}

func (x *mixer) wildRow() []int {
	var row []int
	for range x.below(5) {
		row = append(row, one(x, 1, 1, 2, x.wild()))
	}
	return row
}

// Every call answers at all arguments.
func TestWildArguments(t *testing.T) {
	x := &mixer{state: 5}
	for range 20000 {
		few := func() int { return one(x, 0, 0, 0, 1, x.wild()) }
		g := api.Graph{Out: few()}
		for range x.below(27) {
			wild := api.Node{Kind: x.below(11), A: few(), B: few(), Shape: x.wildRow(), Lo: few(), Hi: few(), Size: few(), Data: x.wildRow(), Bias: x.wildRow()}
			g.Nodes = append(g.Nodes, one(x, wild, input(0, 1, 1), input(0, 1, 1), scaled(0, few()), power(0, few(), few(), few())))
		}
		spans, err := interval.Spans(g)
		if _, errForm := graph.Check(g); errForm != api.OK && err != errForm || err != api.OK && spans != nil {
			t.Error(spans, err, errForm, g)
		}
		var inputs [][]int
		for range x.below(4) {
			inputs = append(inputs, one(x, x.wildRow(), []int{x.below(2)}))
		}
		numbers, errRun := interval.Run(g, inputs)
		if err != api.OK && errRun != err || errRun != api.OK && numbers != nil || errRun == api.OK && len(numbers) == 0 {
			t.Error(numbers, errRun, err, g)
		}
		if interval.Most([]api.Span{{Lo: x.wild(), Hi: x.wild()}, {Lo: x.wild(), Hi: x.wild()}}) < 0 {
			t.Error("a size below 0")
		}
	}
}
