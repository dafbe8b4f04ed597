package tidy_test

import (
	"math"
	"slices"
	"testing"

	"arras/api"
	"arras/graph"
	"arras/interval"
	"arras/tidy"
)

// refuses holds the call against a graph's error.
func refuses(t *testing.T, what string, g api.Graph, want api.Errno) {
	t.Helper()
	if got, err := tidy.Tidy(g); err != want || got.Nodes != nil || got.Out != 0 {
		t.Errorf("%s: %v %+v, want %v: %+v", what, err, got, want, g)
	}
	if _, err := interval.Spans(g); err != want {
		t.Error("Spans", what, err, want)
	}
}

// beyond ends with a node beyond MaxValue.
func beyond() []api.Node { return []api.Node{input(0, 1, 1), scaled(0, most), add(1, 1)} }

// noGraphs are refused by layer 16, whatever is beyond MaxValue ahead of what is wrong.
func noGraphs() map[string]api.Graph {
	behind := func(nodes ...api.Node) api.Graph { return of(append(beyond(), nodes...)...) }
	return map[string]api.Graph{
		"none":              {},
		"no nodes, an Out":  {Out: 1},
		"too many":          of(slices.Repeat(beyond()[:1], api.MaxNodes+1)...),
		"too many doubles":  of(append(beyond(), slices.Repeat([]api.Node{scaled(0, 2)}, api.MaxNodes)...)...),
		"no Out":            out(3, beyond()...),
		"Out below 0":       out(-1, beyond()...),
		"far Out":           out(math.MinInt, beyond()...),
		"no kind":           behind(api.Node{}),
		"no kind of a size": behind(api.Node{Kind: 10}),
		"no input":          behind(api.Node{Kind: api.KindInput}),
		"A of an input":     behind(api.Node{Kind: api.KindInput, A: 1, Shape: list(1)}),
		"A itself":          behind(scaled(3, 1)),
		"A behind":          behind(scaled(4, 1), input(0, 1, 1)),
		"A below 0":         behind(power(-1, 1, 1, 1)),
		"B far":             behind(add(0, math.MaxInt)),
		"B of a scale":      behind(api.Node{Kind: api.KindScale, B: 1, Data: list(1)}),
		"Lo of a scale":     behind(api.Node{Kind: api.KindScale, Lo: 1, Data: list(1)}),
		"Hi of a scale":     behind(api.Node{Kind: api.KindScale, Hi: 1, Data: list(1)}),
		"no numbers":        behind(constant(list(2), 1)),
		"no bias":           behind(dense(0, nil, list(1))),
		"no kernel":         behind(conv(0, list(1, 1, 1), list(1), list(1))),
		"no size":           behind(pool(0, 0)),
		"no picture":        behind(pool(0, 1)),
		"rows too long":     behind(dense(0, list(1), list(1, 1))),
		"no channels":       behind(conv(0, list(1, 1, 1, 1), list(1), list(1))),
		"unlike":            behind(input(0, 1, 2), add(2, 3)),
		"too many entries":  behind(flat(0, 2)),
		"great weight":      behind(scaled(0, most+1)),
		"great number":      behind(constant(list(1), math.MinInt)),
		"Lo above Hi":       behind(input(1, 0, 1)),
		"great Hi":          behind(input(0, math.MaxInt, 1)),
	}
}

// The errors of layer 16 come first.
func TestGraphsThatMayNotBe(t *testing.T) {
	told := map[api.Errno]int{}
	for what, g := range noGraphs() {
		_, err := graph.Check(g)
		told[err]++
		refuses(t, what, g, err)
	}
	if told[api.ErrForm] < 15 || told[api.ErrShape] < 4 || told[api.ErrRange] < 4 || told[api.OK] > 0 {
		t.Error("too few tries", told)
	}
}

// Of two wrong nodes the first counts, though neither is needed, and the one behind would be let go.
func TestFirstWrongNode(t *testing.T) {
	wrong := map[api.Errno]api.Node{api.ErrForm: scaled(9, 1), api.ErrShape: flat(0, 2), api.ErrRange: scaled(0, most+1)}
	for err, n := range wrong {
		for _, other := range wrong {
			refuses(t, "first", out(0, input(0, 1, 1), n, other), err)
			refuses(t, "behind one beyond", out(0, append(beyond(), n, other)...), err)
			refuses(t, "ahead of one beyond", out(0, append([]api.Node{input(0, 1, 1), n}, beyond()...)...), err)
		}
	}
}

// No end of a span may be beyond MaxValue: whether the node is needed, double, or a constant.
func TestBeyondMaxValue(t *testing.T) {
	one := input(0, 1, 1)
	for what, g := range map[string]api.Graph{
		"a sum":                      of(beyond()...),
		"a scale":                    of(input(0, 2, 1), scaled(0, most)),
		"below":                      of(input(0, 2, 1), scaled(0, -most)),
		"a square":                   of(input(-1025, 0, 1), power(0, 0, 0, 1)),
		"a pool":                     of(input(0, most/2, 1, 2, 2), pool(0, 2)),
		"a dense":                    of(one, dense(0, list(1), list(most))),
		"a conv":                     of(input(0, 1, 1, 1, 1), conv(0, list(1, 1, 1, 1), list(-1), list(-most))),
		"twice":                      of(one, scaled(0, most), scaled(1, 2), scaled(1, 2)),
		"of constants":               of(constant(list(1), most), add(0, 0)),
		"of constants, by far":       of(constant(list(1), most), power(0, most, most, most)),
		"of constants, by one":       of(constant(list(1), most), constant(list(1), 1), add(0, 1)),
		"constants told apart":       of(constant(list(2), 0, most), dense(0, list(0), list(most, 0))),
		"constants by their span":    of(constant(list(2), most, -most), dense(0, list(0), list(1, 1))),
		"only of what stands beyond": of(input(-most, most, 1), scaled(0, -1), add(0, 1)),
	} {
		for place := range g.Nodes {
			refuses(t, what, out(place, g.Nodes...), api.ErrRange)
		}
	}
}

// At MaxValue they may be.
func TestAtMaxValue(t *testing.T) {
	for _, sign := range []int{1, -1} {
		end := sign * most
		for what, g := range map[string]api.Graph{
			"an input": of(input(-most, most, 1)),
			"a scale":  of(input(0, 1, 1), scaled(0, end)),
			"a square": of(input(0, 1024, 1), power(0, 0, 0, sign)),
			"a dense":  of(input(0, 1, 1), dense(0, list(end-sign), list(sign))),
		} {
			stays(t, what, g)
		}
		becomes(t, "a sum of constants", of(constant(list(1), end/2), add(0, 0)), of(constant(list(1), end)))
		becomes(t, "a row", of(constant(list(2), end, 0), dense(0, list(0), list(1, 0))), of(constant(list(1), end)))
	}
}
