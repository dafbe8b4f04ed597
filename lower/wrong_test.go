package lower_test

import (
	"math"
	"slices"
	"testing"

	"arras/api"
	"arras/lower"
	"arras/vector"
)

// refuses asks that a graph is refused by that error.
func refuses(t *testing.T, what string, g api.Graph, o api.Options, slots int, want api.Errno) {
	t.Helper()
	if v, err := lower.Lower(g, o, slots); err != want || !sameProgram(v, api.Vectors{}) {
		t.Errorf("%s: %+v %v, want %v", what, v, err, want)
	}
	if _, err := judgedLower(g, o, slots); err != want {
		t.Errorf("%s: the judge says %v", what, err)
	}
}

func right() api.Graph { return of(input(-2, 3, 2), scaled(0, 3)) }

func TestLayouts(t *testing.T) {
	for _, layout := range list(-1, 2, 3, math.MaxInt, math.MinInt, 1<<32, 1<<32+1, 256) {
		for _, o := range mixtures() {
			o.Layout = layout
			refuses(t, "a layout", right(), o, 4, api.ErrArg)
		}
	}
}

func TestSlots(t *testing.T) {
	for _, o := range mixtures() {
		for slots := -10; slots <= 5000; slots++ {
			if slices.Contains(allSlots(), slots) {
				if v, err := isAsJudged(t, right(), o, slots); err != api.OK || v.Slots != slots {
					t.Error(slots, err)
				}
			} else {
				refuses(t, "slots", right(), o, slots, api.ErrArg)
			}
		}
		for bit := 12; bit < 64; bit++ {
			refuses(t, "many slots", right(), o, 1<<bit, api.ErrArg)
			refuses(t, "many slots", right(), o, 1<<bit+4, api.ErrArg)
		}
		refuses(t, "slots", right(), o, math.MaxInt, api.ErrArg)
		refuses(t, "slots", right(), o, math.MinInt, api.ErrArg)
	}
}

// wrongGraphs are graphs of each of layer 17's errors.
func wrongGraphs() map[api.Errno][]api.Graph {
	x, picture := input(-2, 3, 2), input(0, 1, 1, 2, 2)
	return map[api.Errno][]api.Graph{
		api.ErrForm: {
			{},
			{Nodes: []api.Node{x}, Out: 1},
			{Nodes: []api.Node{x}, Out: -1},
			{Nodes: slices.Repeat([]api.Node{x}, api.MaxNodes+1)},
			of(api.Node{}),
			of(x, scaled(1, 3)),
			of(x, api.Node{Kind: 10}),
			of(x, power(0, 1, 2, 3), api.Node{Kind: api.KindPower, A: 0, Data: list(1, 2)}),
			of(input(0, 1, 65)),
			of(input(0, 1)),
			of(x, scaled(-1, 3)),
		},
		api.ErrShape: {
			of(x, dense(0, list(1), list(1, 2, 3))),
			of(x, conv(0, list(1, 1, 1, 1), list(0), list(1))),
			of(picture, conv(0, list(1, 1, 3, 1), list(0), list(1, 1, 1))),
			of(x, pool(0, 1)),
			of(x, input(0, 1, 1, 2), sum(0, 1)),
			of(x, flat(0, 3)),
		},
		api.ErrRange: {
			of(input(1, 0, 2)),
			of(input(0, api.MaxValue+1, 2)),
			of(x, scaled(0, api.MaxValue)),
			of(x, power(0, 0, 0, api.MaxValue/4)),
			of(input(0, 1024, 2), dense(0, list(0), list(1024, 1))),
		},
	}
}

// Each error of layer 17's Spans is answered, whatever the options and slots.
func TestErrorsOfSpans(t *testing.T) {
	for want, graphs := range wrongGraphs() {
		for _, g := range graphs {
			for _, o := range mixtures() {
				refuses(t, "a graph", g, o, 4, want)
				refuses(t, "a graph", g, o, 2048, want)
				o.Layout = 2
				refuses(t, "a layout ahead of the graph", g, o, 4, api.ErrArg)
				o.Layout = 1
				refuses(t, "slots ahead of the graph", g, o, 5, api.ErrArg)
			}
		}
	}
	// A node that nobody needs counts too, though it would be let go.
	for _, o := range mixtures() {
		refuses(t, "what isn't needed", out(0, input(0, 4, 1), scaled(0, api.MaxValue)), o, 4, api.ErrRange)
	}
}

// The spans are asked ahead of whether the numbers stand in the slots.
func TestSpansAheadOfFit(t *testing.T) {
	for _, o := range mixtures() {
		refuses(t, "both", of(input(0, 4, 5), scaled(0, api.MaxValue)), o, 4, api.ErrRange)
		refuses(t, "one", of(input(0, 4, 5), scaled(0, 3)), o, 4, api.ErrFit)
	}
}

// Of each shape the slots that just suffice, and half as many, by each layout.
func TestFit(t *testing.T) {
	told := map[api.Errno]int{}
	for _, shape := range append(pictures(64), list(5), list(64), list(8, 8), list(3, 3)) {
		for _, o := range mixtures() {
			places := judgedSlots(shape, o.Layout)
			last := places[len(places)-1]
			for _, slots := range list(4, 8, 16, 32, 64, 128) {
				want := api.OK
				if last >= slots {
					want = api.ErrFit
				}
				if _, err := isAsJudged(t, of(input(0, 1, shape...)), o, slots); err != want {
					t.Error(shape, o, slots, err, want)
				}
				told[want]++
			}
		}
	}
	if told[api.OK] < 2000 || told[api.ErrFit] < 2000 {
		t.Error("too few tries", told)
	}
}

// A picture whose channels are apart may need more slots than its entries.
func TestFitByLayout(t *testing.T) {
	g := of(input(0, 1, 2, 3, 1), scaled(0, 2))
	refuses(t, "six entries", g, api.Options{}, 4, api.ErrFit)
	refuses(t, "six entries apart", g, api.Options{Layout: 1}, 4, api.ErrFit)
	wide := of(input(0, 1, 3, 5, 1))
	if _, err := isAsJudged(t, wide, api.Options{}, 16); err != api.OK {
		t.Error(err)
	}
	refuses(t, "fifteen entries apart", wide, api.Options{Layout: 1}, 16, api.ErrFit)
	if _, err := isAsJudged(t, wide, api.Options{Layout: 1}, 32); err != api.OK {
		t.Error(err)
	}
}

// Each node's numbers have to stand there, in the midst too, and of one that nobody needs: but if it is let go.
func TestFitOfEachNode(t *testing.T) {
	many := dense(0, make([]int, 5), make([]int, 10))
	for _, o := range mixtures() {
		refuses(t, "in the midst", of(input(0, 1, 2), many, dense(1, list(0), make([]int, 5))), o, 4, api.ErrFit)
		refuses(t, "the last one", of(input(0, 1, 2), many), o, 4, api.ErrFit)
		refuses(t, "an input that isn't needed", out(0, input(0, 1, 2), input(0, 1, 5)), o, 4, api.ErrFit)
		notNeeded := out(0, input(0, 1, 2), many)
		folded := of(constant(list(5), 1, 2, 3, 4, 5), dense(0, list(0), list(1, 1, 1, 1, 1)))
		if o.Tidy {
			takes(t, notNeeded, o, 4, 1)
			takes(t, folded, o, 4, 1)
		} else {
			refuses(t, "what isn't needed", notNeeded, o, 4, api.ErrFit)
			refuses(t, "a constant", folded, o, 4, api.ErrFit)
		}
	}
}

// takes asks that a graph has a program of so many instructions.
func takes(t *testing.T, g api.Graph, o api.Options, slots, count int) {
	t.Helper()
	if v, err := isAsJudged(t, g, o, slots); err != api.OK || len(v.Code) != count || vector.Check(v) != api.OK {
		t.Error(o, slots, err, len(v.Code), count)
	}
}

// full is a Dense from 64 entries to so many: of 128 slots it has as many diagonals as 63 and so many.
func full(a, rows int) api.Node {
	return dense(a, make([]int, rows), slices.Repeat(list(1), 64*rows))
}

// long is a graph of 1896 instructions in 128 slots, of six nodes.
func long() []api.Node {
	return []api.Node{input(0, 0, 64), full(0, 64), full(0, 64), full(0, 64), full(0, 64), full(0, 64)}
}

// hole is a Dense to one row of so many weights of 1, the first 64 less of them 0: so x itself isn't taken.
func hole(a, weights int) api.Node {
	row := make([]int, 64)
	for i := range weights {
		row[63-i] = 1
	}
	return dense(a, list(0), row)
}

// MaxInstr instructions may be, and one more not, wherever the last ones are from.
func TestBig(t *testing.T) {
	plain, apart := api.Options{}, api.Options{Layout: 1}
	// 1 of the input, and 379 of each Dense: 126 turns, 127 products, 126 sums.
	takes(t, of(long()...), plain, 128, 1896)
	// 50 turns and 50 products and 49 sums are 149; 152 are lacking.
	most := append(long(), hole(0, 51))
	for _, o := range []api.Options{plain, apart} {
		takes(t, of(append(long(), hole(0, 50))...), o, 128, 2045)
		takes(t, of(most...), o, 128, api.MaxInstr)
		takes(t, out(0, most...), o, 128, api.MaxInstr)
		takes(t, of(append(most, flat(0, 8, 8))...), o, 128, api.MaxInstr)
		takes(t, of(append(long(), hole(0, 50), scaled(6, 2), scaled(6, 2), scaled(6, 2))...), o, 128, api.MaxInstr)
		for _, one := range []api.Node{scaled(6, 2), power(6, 1, 1, 0), sum(6, 6), power(6, 0, 0, 1), power(6, 0, 0, 0), input(0, 0, 1), constant(list(1), 2), full(0, 1), pool(7, 1)} {
			nodes := append(slices.Clone(most), one)
			if one.Kind == api.KindPool {
				nodes = append(slices.Clone(most), flat(6, 1, 1, 1), one)
			}
			refuses(t, "one more", of(nodes...), o, 128, api.ErrBig)
			refuses(t, "one more that isn't needed", out(0, nodes...), o, 128, api.ErrBig)
			refuses(t, "far more", of(append(nodes, full(0, 64), full(0, 64))...), o, 128, api.ErrBig)
		}
		withBias := slices.Clone(most)
		withBias[6].Bias = list(1)
		refuses(t, "a bias more", of(withBias...), o, 128, api.ErrBig)
		refuses(t, "a product more", of(append(long(), hole(0, 52))...), o, 128, api.ErrBig)
	}
}

// What is let go, and what giant steps spare, isn't laid: so a graph that is too big may have a program by other options.
func TestBigByOptions(t *testing.T) {
	nodes := append(long(), hole(0, 51), scaled(6, 2))
	for _, o := range mixtures() {
		if o.Tidy || o.Giant {
			if _, err := isAsJudged(t, of(nodes...), o, 128); err != api.OK {
				t.Error(o, err)
			}
		} else {
			refuses(t, "too big", of(nodes...), o, 128, api.ErrBig)
		}
	}
	for range 16 {
		nodes = append(nodes, full(0, 64))
	}
	for _, o := range mixtures() {
		if o.Tidy {
			if _, err := isAsJudged(t, of(nodes...), o, 128); err != api.OK {
				t.Error(o, err)
			}
		} else {
			refuses(t, "too big", of(nodes...), o, 128, api.ErrBig)
		}
	}
}

// Whether all numbers stand there is asked ahead of how many instructions there are; the spans ahead of both.
func TestFitAheadOfBig(t *testing.T) {
	nodes := append(long(), full(0, 64), full(0, 64))
	refuses(t, "too big", of(nodes...), api.Options{}, 64+64, api.ErrBig)
	apart := append(slices.Clone(nodes), input(0, 0, 5, 9, 1))
	refuses(t, "too big, too wide", of(apart...), api.Options{Layout: 1}, 64, api.ErrFit)
	refuses(t, "too big, too wide", of(append(slices.Clone(nodes), input(0, 0, 9, 5, 1))...), api.Options{Layout: 1}, 64, api.ErrFit)
	refuses(t, "too great, too big, too wide", of(append(apart, scaled(0, 1), input(0, api.MaxValue+1, 1))...), api.Options{Layout: 1}, 64, api.ErrRange)
	refuses(t, "all", of(append(apart, input(0, api.MaxValue+1, 1))...), api.Options{Layout: 2}, 64, api.ErrArg)
}
