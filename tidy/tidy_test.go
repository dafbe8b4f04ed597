package tidy_test

import (
	"fmt"
	"slices"
	"testing"

	"arras/api"
	"arras/tidy"
)

const most = api.MaxValue

func input(lo, hi int, shape ...int) api.Node {
	return api.Node{Kind: api.KindInput, Shape: shape, Lo: lo, Hi: hi}
}

func constant(shape []int, numbers ...int) api.Node {
	return api.Node{Kind: api.KindConst, Shape: shape, Data: numbers}
}

func dense(a int, bias, weights []int) api.Node {
	return api.Node{Kind: api.KindDense, A: a, Data: weights, Bias: bias}
}

func conv(a int, shape, bias, weights []int) api.Node {
	return api.Node{Kind: api.KindConv, A: a, Shape: shape, Data: weights, Bias: bias}
}

func pool(a, size int) api.Node { return api.Node{Kind: api.KindPool, A: a, Size: size} }

func add(a, b int) api.Node { return api.Node{Kind: api.KindAdd, A: a, B: b} }

func scaled(a, by int) api.Node { return api.Node{Kind: api.KindScale, A: a, Data: []int{by}} }

func power(a, c, b, square int) api.Node {
	return api.Node{Kind: api.KindPower, A: a, Data: []int{c, b, square}}
}

func flat(a int, shape ...int) api.Node { return api.Node{Kind: api.KindFlat, A: a, Shape: shape} }

// of is a graph of nodes; the last one comes out.
func of(nodes ...api.Node) api.Graph { return api.Graph{Nodes: nodes, Out: len(nodes) - 1} }

// out is a graph of nodes, of which this one comes out.
func out(place int, nodes ...api.Node) api.Graph { return api.Graph{Nodes: nodes, Out: place} }

// textOf tells all fields; lists that are empty are alike.
func textOf(g api.Graph) string { return fmt.Sprintf("%+v", g) }

// becomes holds the tidied graph against one worked out by hand.
func becomes(t *testing.T, what string, g, want api.Graph) {
	t.Helper()
	if got, err := tidy.Tidy(g); err != api.OK || textOf(got) != textOf(want) {
		t.Errorf("%s: %v, %+v, want %+v", what, err, got, want)
	}
}

// stays says that nothing is to be done with a graph.
func stays(t *testing.T, what string, g api.Graph) {
	t.Helper()
	becomes(t, what, g, g)
}

func list(numbers ...int) []int { return numbers }

// The chapter's example, which is also one of the whole.
func TestExamples(t *testing.T) {
	becomes(t, "the example", of(constant(list(1), 2), scaled(0, 3)), of(constant(list(1), 6)))
}

// What is needed, and is neither double nor made of constants, stays.
func TestGraphsThatStay(t *testing.T) {
	stays(t, "an input", of(input(-2, 3, 2)))
	stays(t, "a constant", of(constant(list(2), 4, 5)))
	stays(t, "a chain", of(input(-2, 3, 1, 2, 2), conv(0, list(1, 1, 1, 2), list(2), list(1, -1)), power(1, 1, 0, 1), flat(2, 2), dense(3, list(1), list(1, 1)), scaled(4, 3), add(5, 4)))
	stays(t, "a pool", of(input(-2, 3, 1, 2, 2), pool(0, 2)))
	stays(t, "of the first one only", of(constant(list(1), 1), input(0, 1, 1), add(0, 1)))
	stays(t, "of the second one only", of(input(0, 1, 1), constant(list(1), 1), add(0, 1)))
	stays(t, "one input after another", of(input(0, 1, 1), input(0, 1, 1), add(0, 1)))
	stays(t, "sums the other way", of(input(0, 1, 1), input(0, 1, 1), add(0, 1), add(1, 0), add(2, 3)))
	stays(t, "nothing done", of(input(0, 1, 1), scaled(0, 1), power(1, 0, 1, 0), flat(2, 1), same(3)))
	stays(t, "nothing told", of(input(0, 1, 1), scaled(0, 0)))
	stays(t, "an input of one number", of(input(3, 3, 1), scaled(0, 2)))
}

// same is a layer that changes nothing, of one entry.
func same(a int) api.Node { return dense(a, list(0), list(1)) }

// Each kind that takes nodes becomes a constant of its shape, with its numbers.
func TestConstantsAreMade(t *testing.T) {
	picture := constant(list(1, 2, 3), 1, 2, 3, 4, 5, 6)
	becomes(t, "dense", of(picture, dense(0, list(100, 200), list(1, 1, 1, 1, 1, 1, 1, -1, 1, -1, 1, -2))), of(constant(list(2), 121, 191)))
	becomes(t, "conv", of(picture, conv(0, list(2, 1, 2, 1), list(7, -1), list(1, 0, 10, 1))), of(constant(list(2, 1, 3), 8, 9, 10, 13, 24, 35)))
	becomes(t, "pool", of(constant(list(1, 2, 4), 1, 2, 3, 4, 5, 6, 7, 8), pool(0, 2)), of(constant(list(1, 1, 2), 14, 22)))
	becomes(t, "pool of one", of(picture, pool(0, 1)), of(picture))
	becomes(t, "add", of(constant(list(2), 1, 2), constant(list(2), 10, 30), add(0, 1)), of(constant(list(2), 11, 32)))
	becomes(t, "add of itself", of(constant(list(3, 1), 1, 2, 3), add(0, 0)), of(constant(list(3, 1), 2, 4, 6)))
	becomes(t, "scale", of(constant(list(2, 1), 1, -2), scaled(0, -5)), of(constant(list(2, 1), -5, 10)))
	becomes(t, "power", of(constant(list(3), 0, -1, 2), power(0, 1, 10, 100)), of(constant(list(3), 1, 91, 421)))
	becomes(t, "flat", of(picture, flat(0, 3, 2)), of(constant(list(3, 2), 1, 2, 3, 4, 5, 6)))
	becomes(t, "flat as it was", of(picture, flat(0, 1, 2, 3)), of(picture))
	becomes(t, "numbers at both ends", of(constant(list(2), 1, -1), scaled(0, most)), of(constant(list(2), most, -most)))
}

// What is made of constants that were made is a constant too.
func TestChainsOfConstants(t *testing.T) {
	becomes(t, "a chain of all kinds", of(constant(list(1, 2, 2), 1, 2, 3, 4),
		conv(0, list(1, 1, 1, 1), list(1), list(2)), // 3 5 7 9
		pool(1, 2),                         // 24
		flat(2, 1),                         // 24
		power(3, -1, 2, 1),                 // 623
		add(4, 4),                          // 1246
		scaled(5, -1),                      // -1246
		dense(6, list(46, 0), list(1, 2))), // -1200 -2492
		of(constant(list(2), -1200, -2492)))
	becomes(t, "numbers that hang on one another", of(constant(list(1), 3), scaled(0, 2), add(0, 1), add(2, 1), add(3, 2)), of(constant(list(1), 24)))
	becomes(t, "a chain beside an input", of(constant(list(1), 3), input(0, 1, 1), scaled(0, 2), scaled(2, 2), add(1, 3), add(3, 4), add(5, 2)),
		of(input(0, 1, 1), constant(list(1), 6), constant(list(1), 12), add(0, 2), add(2, 3), add(4, 1)))
	// Of the graph's spans the difference may be from -1 to 1, the number is -1.
	becomes(t, "narrower than its span", of(constant(list(2), 1, 2), dense(0, list(0), list(1, -1)), constant(list(1), -1), input(0, 1, 1), add(1, 3), add(4, 2)),
		of(constant(list(1), -1), input(0, 1, 1), add(0, 1), add(2, 0)))
}

// Two nodes that are the same have one stand-in.
func TestDoubles(t *testing.T) {
	in := input(-2, 3, 1, 2, 2)
	for what, n := range map[string]api.Node{
		"dense": dense(0, list(1), list(1, 2, 3, 4)),
		"conv":  conv(0, list(1, 1, 2, 2), list(5), list(1, 2, 3, 4)),
		"pool":  pool(0, 2),
		"add":   add(0, 0),
		"scale": scaled(0, 7),
		"power": power(0, 1, 2, 3),
		"flat":  flat(0, 4),
	} {
		becomes(t, what, of(in, n, n, add(1, 2)), of(in, n, add(1, 1)))
		becomes(t, what+" thrice", of(in, n, n, scaled(2, 5), n, add(4, 1), add(5, 2)), of(in, n, add(1, 1), add(2, 1)))
		becomes(t, what+" as Out", of(in, n, n), of(in, n))
		becomes(t, what+" as Out, the last of three", of(in, n, n, n), of(in, n))
		becomes(t, what+" as Out, the first", out(1, in, n, n), of(in, n))
	}
	becomes(t, "doubles of doubles", of(input(0, 1, 1), scaled(0, 2), scaled(0, 2), power(1, 0, 1, 1), power(2, 0, 1, 1), add(3, 4), add(4, 3), add(5, 6)),
		of(input(0, 1, 1), scaled(0, 2), power(1, 0, 1, 1), add(2, 2), add(3, 3)))
	becomes(t, "the chapter's four steps", of(input(0, 1, 1), constant(list(1), 2), scaled(1, 3), scaled(0, 5), scaled(0, 5), add(3, 4), add(5, 2)),
		of(input(0, 1, 1), constant(list(1), 6), scaled(0, 5), add(2, 2), add(3, 1)))
}

// A and B are turned ahead of all questions: what was told apart by them alone no longer is.
func TestTurnedFirst(t *testing.T) {
	two := constant(list(1), 2)
	becomes(t, "constants that stand twice", of(input(0, 1, 1), two, two, add(0, 1), add(0, 2), add(3, 4)), of(input(0, 1, 1), two, add(0, 1), add(2, 2)))
	becomes(t, "a sum of doubles of constants", of(two, two, add(0, 1)), of(constant(list(1), 4)))
	becomes(t, "a sum of constants that were made", of(input(0, 1, 1), two, scaled(1, 3), add(2, 1), add(0, 3)), of(input(0, 1, 1), constant(list(1), 8), add(0, 1)))
}

// A constant that was made is the same as one that stood there.
func TestMadeAndFoundConstants(t *testing.T) {
	x := input(0, 1, 1)
	six := constant(list(1), 6)
	becomes(t, "made first", of(x, constant(list(1), 2), scaled(1, 3), six, add(2, 0), add(3, 0), add(4, 5)), of(x, six, add(1, 0), add(2, 2)))
	becomes(t, "found first", of(x, six, constant(list(1), 2), scaled(2, 3), add(3, 0), add(1, 0), add(4, 5)), of(x, six, add(1, 0), add(2, 2)))
	becomes(t, "made twice", of(x, constant(list(1), 2), scaled(1, 3), power(1, 2, 0, 1), add(2, 0), add(3, 0), add(4, 5)), of(x, six, add(1, 0), add(2, 2)))
	becomes(t, "of another shape", of(x, constant(list(1), 6), flat(1, 1, 1), flat(0, 1, 1), add(2, 3), flat(4, 1), add(5, 1)),
		of(x, constant(list(1), 6), constant(list(1, 1), 6), flat(0, 1, 1), add(2, 3), flat(4, 1), add(5, 1)))
	becomes(t, "made as it was", of(six, scaled(0, 1), x, add(1, 2), add(3, 0)), of(six, x, add(0, 1), add(2, 0)))
}

// One field tells two nodes apart.
func TestFieldsTellApart(t *testing.T) {
	still, picture := input(0, 0, 1, 2, 2), input(-2, 3, 2, 2, 2)
	stays(t, "Kind", of(still, flat(0, 1, 2, 2), add(0, 1)))
	stays(t, "Kind of two", of(input(0, 1, 2), input(0, 1, 2), constant(list(2), 1, 1), add(0, 1), add(3, 2), add(0, 4)))
	for what, pair := range map[string][2]api.Node{
		"A":               {scaled(0, 2), scaled(1, 2)},
		"A of a power":    {power(0, 1, 1, 1), power(1, 1, 1, 1)},
		"A of a sum":      {add(0, 1), add(1, 1)},
		"A and B":         {add(0, 1), add(1, 0)},
		"B":               {add(0, 0), add(0, 1)},
		"B, other way":    {add(1, 1), add(1, 0)},
		"Data of a scale": {scaled(0, 2), scaled(0, -2)},
		"Data of a power": {power(0, 1, 2, 3), power(0, 1, 2, 4)},
		"a power's first": {power(0, 1, 2, 3), power(0, 0, 2, 3)},
		"Data of a conv":  {conv(0, list(2, 2, 1, 1), list(0, 0), list(1, 2, 3, 4)), conv(0, list(2, 2, 1, 1), list(0, 0), list(1, 2, 4, 3))},
		"Bias of a conv":  {conv(0, list(2, 2, 1, 1), list(0, 0), list(1, 2, 3, 4)), conv(0, list(2, 2, 1, 1), list(0, 1), list(1, 2, 3, 4))},
	} {
		stays(t, what, of(picture, picture, pair[0], pair[1], add(2, 3)))
	}
	ones := list(1, 1, 1, 1, 1, 1, 1, 1)
	stays(t, "Shape of a const", of(picture, flat(0, 8), constant(list(8), ones...), constant(list(2, 2, 2), ones...), add(0, 3), add(1, 2), flat(4, 8), add(5, 6)))
	stays(t, "Data of a const", of(input(0, 1, 2), constant(list(2), 1, 1), constant(list(2), 1, 2), add(0, 1), add(3, 2)))
	stays(t, "Data of a dense", of(picture, dense(0, list(1), list(1, 1, 1, 1, 1, 1, 1, 1)), dense(0, list(1), list(1, 1, 1, 1, 1, 1, 1, 2)), add(1, 2)))
	stays(t, "Bias of a dense", of(picture, dense(0, list(1, 1), make([]int, 16)), dense(0, list(1, 2), make([]int, 16)), add(1, 2)))
	stays(t, "Shape of a conv", of(input(0, 1, 1, 2, 2), conv(0, list(1, 1, 1, 2), list(1), list(3, 4)), conv(0, list(1, 1, 2, 1), list(1), list(3, 4)), flat(1, 2), flat(2, 2), add(3, 4)))
	stays(t, "Shape of a flat", of(input(0, 1, 2, 3), flat(0, 6), flat(0, 3, 2), flat(2, 6), add(1, 3)))
	stays(t, "Size", of(input(0, 1, 1, 4, 4), pool(0, 2), pool(0, 4), flat(1, 4), dense(3, list(0), list(1, 1, 1, 1)), flat(2, 1), add(4, 5)))
	stays(t, "Lo", of(input(0, 1, 1), input(-1, 1, 1), add(0, 1)))
	stays(t, "Hi", of(input(0, 1, 1), input(0, 2, 1), add(0, 1)))
}

// Inputs that are the same in all fields stay: each has numbers of its own.
func TestInputsStay(t *testing.T) {
	x := input(-2, 3, 2)
	stays(t, "two alike", of(x, x, add(0, 1)))
	becomes(t, "two alike, one needed", of(x, x, scaled(0, 2)), of(x, x, scaled(0, 2)))
	stays(t, "two alike, done with alike", of(x, x, scaled(0, 2), scaled(1, 2), add(2, 3)))
	becomes(t, "none needed", of(x, scaled(0, 3), input(0, 1, 1), input(0, 2, 3, 4), add(0, 1), constant(list(1), 7)), api.Graph{Nodes: []api.Node{x, input(0, 1, 1), input(0, 2, 3, 4), constant(list(1), 7)}, Out: 3})
	becomes(t, "behind Out", out(1, x, scaled(0, 3), input(0, 1, 1), scaled(2, 3), input(5, 6, 1)), out(1, x, scaled(0, 3), input(0, 1, 1), input(5, 6, 1)))
	becomes(t, "an input as Out", out(2, x, scaled(0, 3), input(0, 1, 1), add(1, 1)), out(1, x, input(0, 1, 1)))
	becomes(t, "the first one as Out", out(0, x, scaled(0, 3), x), out(0, x, x))
	becomes(t, "the second of two alike as Out", out(2, x, scaled(0, 3), x), out(1, x, x))
	stays(t, "one node", out(0, x))
}

// What Out neither is nor needs is let go, and the places behind it move.
func TestWhatIsLetGo(t *testing.T) {
	x, two := input(-2, 3, 2), constant(list(2), 1, 2)
	becomes(t, "behind", out(1, x, scaled(0, 2), scaled(1, 3)), of(x, scaled(0, 2)))
	becomes(t, "between", of(x, scaled(0, 2), scaled(0, 3)), of(x, scaled(0, 3)))
	becomes(t, "ahead", of(two, x, scaled(1, 3)), of(x, scaled(0, 3)))
	becomes(t, "a chain", of(x, scaled(0, 2), power(1, 1, 1, 1), add(1, 2), dense(3, list(1), list(1, 1)), scaled(0, 3)), of(x, scaled(0, 3)))
	becomes(t, "several places", of(two, x, scaled(1, 9), input(0, 1, 2), scaled(1, 8), add(1, 3), scaled(5, 7), add(5, 3), flat(7, 2, 1)), of(x, input(0, 1, 2), add(0, 1), add(2, 1), flat(3, 2, 1)))
	becomes(t, "a constant that is needed", of(unneeded(), two, x, scaled(2, 5), add(2, 1)), of(two, x, add(1, 0)))
	becomes(t, "constants of which a constant was made", of(two, constant(list(2), 5, 5), add(0, 1), x, add(2, 3)), of(constant(list(2), 6, 7), x, add(0, 1)))
	becomes(t, "one of them is needed still", of(two, constant(list(2), 5, 5), add(0, 1), x, add(2, 3), add(4, 1)), of(constant(list(2), 5, 5), constant(list(2), 6, 7), x, add(1, 2), add(3, 0)))
	becomes(t, "a constant as Out", out(0, two, x, add(0, 1)), out(0, two, x))
	becomes(t, "a constant behind as Out", out(2, constant(list(1), 4), x, two), out(1, x, two))
	becomes(t, "a stand-in as Out", out(3, x, scaled(0, 2), scaled(0, 3), scaled(0, 2), add(1, 3)), out(1, x, scaled(0, 2)))
	becomes(t, "a made constant as Out", out(2, two, x, scaled(0, 2), add(1, 2)), out(1, x, constant(list(2), 2, 4)))
	becomes(t, "a made constant that stood there as Out", out(3, two, constant(list(2), 2, 4), x, scaled(0, 2)), out(0, constant(list(2), 2, 4), x))
	// Behind what is let go stand kinds without B, whose B is 0 still, and without A.
	becomes(t, "places that kinds don't have", of(two, x, scaled(1, 2), power(2, 1, 1, 1), joined(3), constant(list(1), 3), add(4, 5)), of(x, scaled(0, 2), power(1, 1, 1, 1), joined(2), constant(list(1), 3), add(3, 4)))
}

// unneeded is a constant that nobody needs.
func unneeded() api.Node { return constant(list(1), 0) }

// joined is a layer of two entries that tells their sum.
func joined(a int) api.Node { return dense(a, list(0), list(1, 1)) }

// As many nodes as may be: all kept, all alike, all let go, all made constants.
func TestManyNodes(t *testing.T) {
	const count = api.MaxNodes
	x := input(0, 1, 1)
	chain, doubles, dead, constants := []api.Node{x}, []api.Node{x}, []api.Node{x}, []api.Node{constant(list(1), 1)}
	for i := range count - 1 {
		chain = append(chain, power(i, 1, 1, 0))
		doubles = append(doubles, scaled(0, 3))
		dead = append(dead, scaled(0, i))
		constants = append(constants, power(i, 1, 1, 0))
	}
	stays(t, "a chain", of(chain...))
	stays(t, "inputs", of(slices.Repeat([]api.Node{x}, count)...))
	for place := range count {
		becomes(t, "a chain", out(place, chain...), of(chain[:place+1]...))
		becomes(t, "doubles", out(place, doubles...), of(doubles[:min(place, 1)+1]...))
		becomes(t, "constants", out(place, constants...), of(constant(list(1), place+1)))
		becomes(t, "inputs", out(place, slices.Repeat([]api.Node{x}, count)...), out(place, slices.Repeat([]api.Node{x}, count)...))
		want := []api.Node{x}
		if place > 0 {
			want = append(want, dead[place])
		}
		becomes(t, "dead", out(place, dead...), of(want...))
	}
}

// Lists that are empty may be nil or not: both are the same field.
func TestEmptyListsAreAlike(t *testing.T) {
	empty := api.Node{Kind: api.KindScale, Shape: []int{}, Data: list(2), Bias: []int{}}
	becomes(t, "doubles", of(input(0, 1, 1), scaled(0, 2), empty, add(1, 2)), of(input(0, 1, 1), scaled(0, 2), add(1, 1)))
	three := api.Node{Kind: api.KindConst, Shape: list(1), Data: list(3), Bias: []int{}}
	becomes(t, "constants", of(input(0, 1, 1), three, constant(list(1), 3), add(1, 0), add(2, 0), add(3, 4)), of(input(0, 1, 1), constant(list(1), 3), add(1, 0), add(2, 2)))
	becomes(t, "a made one", of(input(0, 1, 1), three, scaled(1, 1), add(1, 0), add(2, 0), add(3, 4)), of(input(0, 1, 1), constant(list(1), 3), add(1, 0), add(2, 2)))
}
