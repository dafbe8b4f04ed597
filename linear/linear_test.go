package linear_test

import (
	"math"
	"slices"
	"testing"

	"arras/api"
	"arras/linear"
)

func dense(bias, weights []int) api.Node {
	return api.Node{Kind: api.KindDense, Data: weights, Bias: bias}
}

func conv(shape, bias, weights []int) api.Node {
	return api.Node{Kind: api.KindConv, Shape: shape, Data: weights, Bias: bias}
}

func pool(size int) api.Node { return api.Node{Kind: api.KindPool, Size: size} }

func flat(shape ...int) api.Node { return api.Node{Kind: api.KindFlat, Shape: shape} }

func list(numbers ...int) []int { return numbers }

// made is a node, and its rows and biases, worked out by hand.
type made struct {
	n      api.Node
	in     []int
	rows   [][]int
	biases []int
}

func rowsByHand() []made {
	return []made{
		{dense(list(9), list(5, 7)), list(2), [][]int{{5, 7}}, list(9)},
		{dense(list(1, -2), list(1, 2, 3, 4, 5, 6)), list(3), [][]int{{1, 2, 3}, {4, 5, 6}}, list(1, -2)},
		{dense(list(0, 0, 8), list(1, 0, -1)), list(1, 1, 1), [][]int{{1}, {0}, {-1}}, list(0, 0, 8)},
		{dense(list(0), list(1, 2, 3, 4)), list(2, 2), [][]int{{1, 2, 3, 4}}, list(0)},
		{conv(list(1, 1, 1, 2), list(2), list(1, -1)), list(1, 2, 2), [][]int{{1, -1, 0, 0}, {0, 0, 1, -1}}, list(2, 2)},
		{conv(list(1, 1, 2, 1), list(3), list(5, 7)), list(1, 2, 3), [][]int{{5, 0, 0, 7, 0, 0}, {0, 5, 0, 0, 7, 0}, {0, 0, 5, 0, 0, 7}}, list(3, 3, 3)},
		{conv(list(2, 1, 2, 2), list(0, 5), list(1, 2, 3, 4, 5, 6, 7, 8)), list(1, 3, 2), [][]int{{1, 2, 3, 4, 0, 0}, {0, 0, 1, 2, 3, 4}, {5, 6, 7, 8, 0, 0}, {0, 0, 5, 6, 7, 8}}, list(0, 0, 5, 5)},
		{conv(list(2, 2, 1, 1), list(7, 0), list(1, 10, -1, 4)), list(2, 1, 2), [][]int{{1, 0, 10, 0}, {0, 1, 0, 10}, {-1, 0, 4, 0}, {0, -1, 0, 4}}, list(7, 7, 0, 0)},
		{pool(2), list(1, 2, 4), [][]int{{1, 1, 0, 0, 1, 1, 0, 0}, {0, 0, 1, 1, 0, 0, 1, 1}}, list(0, 0)},
		{pool(2), list(2, 2, 2), [][]int{{1, 1, 1, 1, 0, 0, 0, 0}, {0, 0, 0, 0, 1, 1, 1, 1}}, list(0, 0)},
		{pool(1), list(3, 1, 1), [][]int{{1, 0, 0}, {0, 1, 0}, {0, 0, 1}}, list(0, 0, 0)},
		{flat(2), list(1, 2, 1), [][]int{{1, 0}, {0, 1}}, list(0, 0)},
		{flat(1, 1, 1), list(1), [][]int{{1}}, list(0)},
	}
}

func TestRowsByHand(t *testing.T) {
	for _, h := range rowsByHand() {
		if rows, biases, err := linear.Rows(h.n, h.in); err != api.OK || !sameLists(rows, h.rows) || !slices.Equal(biases, h.biases) {
			t.Error(h.n, rows, biases, err)
		}
	}
}

// laid are diagonals, worked out by hand.
type laid struct {
	rows      [][]int
	from, to  []int
	slots     int
	diagonals [][]int
}

func diagonalsByHand() []laid {
	return []laid{
		{[][]int{{5, 7}}, list(0, 1), list(0), 2, [][]int{{5, 0}, {7, 0}}},
		{[][]int{{5, 7}}, list(0, 1), list(0), 4, [][]int{{5, 0, 0, 0}, {7, 0, 0, 0}, {}, {}}},
		{[][]int{{5, 7}}, list(1, 0), list(0), 2, [][]int{{7, 0}, {5, 0}}},
		{[][]int{{5, 7}}, list(0, 1), list(1), 3, [][]int{{0, 7, 0}, {}, {0, 5, 0}}},
		{[][]int{{1, 2}, {3, 4}}, list(0, 1), list(0, 1), 2, [][]int{{1, 4}, {2, 3}}},
		{[][]int{{1, 2}, {3, 4}}, list(0, 1), list(1, 0), 2, [][]int{{3, 2}, {4, 1}}},
		{[][]int{{1, 0}, {0, 1}}, list(0, 2), list(0, 1), 3, [][]int{{1, 0, 0}, {0, 1, 0}, {}}},
		{[][]int{{1, 2}, {3, 4}, {0, 5}}, list(2, 0), list(0, 1, 2), 3, [][]int{{2, 0, 0}, {0, 3, 5}, {1, 4, 0}}},
		{[][]int{{0, 0}}, list(0, 1), list(0), 2, [][]int{{}, {}}},
		{[][]int{{8}}, list(0), list(0), 1, [][]int{{8}}},
		{[][]int{{0}}, list(0), list(0), 1, [][]int{{}}},
		{[][]int{{-3}}, list(4), list(1), 5, [][]int{{}, {}, {}, {0, -3, 0, 0, 0}, {}}},
		{nil, nil, nil, 1, [][]int{{}}},
		{nil, list(1, 0), nil, 2, [][]int{{}, {}}},
		{[][]int{{}, nil}, nil, list(2, 0), 3, [][]int{{}, {}, {}}},
		{[][]int{{math.MaxInt, math.MinInt}}, list(0, 1), list(1), 2, [][]int{{0, math.MinInt}, {0, math.MaxInt}}},
	}
}

func TestDiagonalsByHand(t *testing.T) {
	for _, h := range diagonalsByHand() {
		if got, err := linear.Diagonals(h.rows, h.from, h.to, h.slots); err != api.OK || !sameLists(got, h.diagonals) {
			t.Error(h.rows, h.from, h.to, h.slots, got, err)
		}
	}
}

// The chapter's examples.
func TestExamples(t *testing.T) {
	if got, err := linear.Slots(list(2, 2, 1), 1, 8); err != api.OK || !slices.Equal(got, list(0, 1, 2, 3)) {
		t.Error(got, err)
	}
	if got, err := linear.Slots(list(2, 3, 1), 1, 8); err != api.OK || !slices.Equal(got, list(0, 1, 2, 4, 5, 6)) {
		t.Error(got, err)
	}
	if got, err := linear.Diagonals([][]int{{5, 7}}, list(0, 1), list(0), 2); err != api.OK || !sameLists(got, [][]int{{5, 0}, {7, 0}}) {
		t.Error(got, err)
	}
}

// The example of the whole: a Dense of the row 5 7, from two entries, of four slots, is multiplied as it is and turned by 1.
func TestExampleOfTheWhole(t *testing.T) {
	from, err := linear.Slots(list(2), 0, 4)
	to, errTo := linear.Slots(list(1), 0, 4)
	rows, biases, errRows := linear.Rows(dense(list(0), list(5, 7)), list(2))
	diagonals, errDiagonals := linear.Diagonals(rows, from, to, 4)
	if err != api.OK || errTo != api.OK || errRows != api.OK || errDiagonals != api.OK {
		t.Error(err, errTo, errRows, errDiagonals)
	}
	if !slices.Equal(biases, list(0)) || !sameLists(diagonals, [][]int{{5, 0, 0, 0}, {7, 0, 0, 0}, {}, {}}) {
		t.Error(rows, biases, diagonals)
	}
}

func TestSlotsByHand(t *testing.T) {
	for _, h := range []struct {
		shape  []int
		layout int
		want   []int
	}{
		{list(1), 0, list(0)},
		{list(1), 1, list(0)},
		{list(3), 0, list(0, 1, 2)},
		{list(3), 1, list(0, 1, 2)},
		{list(2, 3), 0, list(0, 1, 2, 3, 4, 5)},
		{list(2, 3), 1, list(0, 1, 2, 3, 4, 5)},
		{list(2, 3, 1), 0, list(0, 1, 2, 3, 4, 5)},
		{list(2, 1, 3), 1, list(0, 1, 2, 4, 5, 6)},
		{list(3, 1, 1), 1, list(0, 1, 2)},
		{list(3, 2, 1), 1, list(0, 1, 2, 3, 4, 5)},
		{list(1, 1, 5), 1, list(0, 1, 2, 3, 4)},
		{list(2, 1, 5), 1, list(0, 1, 2, 3, 4, 8, 9, 10, 11, 12)},
		{list(2, 2, 3), 1, list(0, 1, 2, 3, 4, 5, 8, 9, 10, 11, 12, 13)},
		{list(3, 3, 1), 1, list(0, 1, 2, 4, 5, 6, 8, 9, 10)},
	} {
		last := h.want[len(h.want)-1]
		if got, err := linear.Slots(h.shape, h.layout, last+1); err != api.OK || !slices.Equal(got, h.want) {
			t.Error(h.shape, h.layout, got, err)
		}
		if got, err := linear.Slots(h.shape, h.layout, last); err != api.ErrFit || len(got) > 0 {
			t.Error(h.shape, h.layout, got, err)
		}
	}
}

// shapes are all that may be.
func shapes() [][]int {
	var all [][]int
	for a := 1; a <= 64; a++ {
		all = append(all, list(a))
		for b := 1; a*b <= 64; b++ {
			all = append(all, list(a, b))
			for c := 1; a*b*c <= 64; c++ {
				all = append(all, list(a, b, c))
			}
		}
	}
	return all
}

// pictures are all shapes of three numbers.
func pictures() [][]int {
	return slices.DeleteFunc(shapes(), func(shape []int) bool { return len(shape) != 3 })
}

// Of all shapes, in both layouts: slots that just suffice, one too few, and all sorts.
func TestSlotsOfAllShapes(t *testing.T) {
	told := map[api.Errno]int{}
	for _, shape := range shapes() {
		for layout := range 2 {
			enough, _ := judgedSlots(shape, layout, math.MaxInt)
			last := enough[len(enough)-1]
			for _, slots := range list(last+1, last, last+2, last-1, 0, -1, 1, 2, 4, 16, 64, 128, api.MaxN, api.MaxN/2, 1<<32, math.MaxInt, math.MinInt) {
				told[areSlotsAsJudged(t, shape, layout, slots)]++
			}
		}
	}
	if told[api.OK] < 5000 || told[api.ErrFit] < 5000 || len(told) != 2 {
		t.Error("too few tries", told)
	}
}

// numbered has numbers that tell where they stand.
func numbered(count int) []int {
	row := make([]int, count)
	for i := range row {
		row[i] = 1000 + i
	}
	return row
}

func TestDenseOfAllShapes(t *testing.T) {
	for _, in := range shapes() {
		for _, numbers := range list(1, 2, 1+len(in)*20, 64) {
			n := dense(numbered(numbers), numbered(numbers*entriesOf(in)))
			if areRowsAsJudged(t, n, in) != api.OK {
				t.Error("refused", n, in)
			}
		}
	}
}

// Kernels of every size that fits, of one channel out, of two and of as many as may be.
func TestConvOfAllKernels(t *testing.T) {
	count := 0
	for _, in := range pictures() {
		for high := 1; high <= in[1]; high++ {
			for wide := 1; wide <= in[2]; wide++ {
				most := 64 / ((in[1] - high + 1) * (in[2] - wide + 1))
				for _, out := range slices.Compact(list(1, min(2, most), most)) {
					shape := list(out, in[0], high, wide)
					n := conv(shape, numbered(out), numbered(entriesOf(shape)))
					if areRowsAsJudged(t, n, in) != api.OK {
						t.Fatal("refused", n, in)
					}
					count++
				}
			}
		}
	}
	if count < 10000 {
		t.Error("too few kernels", count)
	}
}

func TestPoolOfAllSizes(t *testing.T) {
	told := map[api.Errno]int{}
	for _, in := range pictures() {
		for size := -1; size <= 66; size++ {
			told[areRowsAsJudged(t, pool(size), in)]++
		}
	}
	if told[api.OK] < 500 || told[api.ErrForm] < 10000 || len(told) != 2 {
		t.Error("too few tries", told)
	}
}

// From each shape to each other, of as many entries or not.
func TestFlatOfAllShapes(t *testing.T) {
	told, all := map[api.Errno]int{}, shapes()
	for _, in := range all {
		for i, shape := range all {
			if entriesOf(shape) == entriesOf(in) || i%17 == 0 {
				told[areRowsAsJudged(t, flat(shape...), in)]++
			}
		}
	}
	if told[api.OK] < 10000 || told[api.ErrForm] < 10000 || len(told) != 2 {
		t.Error("too few tries", told)
	}
}

// Numbers at both ends are weights and biases, though no span of such a node may be.
func TestGreatNumbers(t *testing.T) {
	const most = api.MaxValue
	great := slices.Repeat(list(most, -most, most, most), 64*16)
	for _, x := range []struct {
		n  api.Node
		in []int
	}{
		{dense(list(most, -most), list(most, -most, most, -most)), list(2)},
		{dense(great[:64], great), list(64)},
		{conv(list(2, 1, 1, 2), list(-most, most), list(most, most, -most, -most)), list(1, 2, 3)},
		{conv(list(64, 64, 1, 1), great[:64], great), list(64, 1, 1)},
		{conv(list(64, 1, 8, 8), great[:64], great), list(1, 8, 8)},
	} {
		if areRowsAsJudged(t, x.n, x.in) != api.OK {
			t.Error("refused", x.n, x.in)
		}
	}
}

// Any number of slots may be, few of which are powers of two: there is a weight on each diagonal.
func TestDiagonalsOfAllSlots(t *testing.T) {
	for slots := 1; slots <= 200; slots++ {
		hasOnEach(t, slots)
	}
	for _, slots := range list(255, 256, 257, 1000, 1023, 1024, 1025, api.MaxN) {
		hasOnEach(t, slots)
	}
}

// hasOnEach lays one row of as many weights as slots, from all of them, to the slot in the middle; all but one of the weights aren't 0.
func hasOnEach(t *testing.T, slots int) {
	t.Helper()
	from, to := make([]int, slots), list(slots/2)
	for i := range from {
		from[i] = slots - 1 - i
	}
	row := numbered(slots)
	row[slots/3] = 0
	if areDiagonalsAsJudged(t, [][]int{row}, from, to, slots) != api.OK {
		t.Error("refused", slots)
	}
	// And back: one weight to each slot.
	var column [][]int
	for i := range slots {
		column = append(column, list(i-1))
	}
	if areDiagonalsAsJudged(t, column, to, from, slots) != api.OK {
		t.Error("refused", slots)
	}
}

// Lists that are empty may be nil or not.
func TestEmptyListsAreAlike(t *testing.T) {
	for _, h := range rowsByHand() {
		for _, row := range []*[]int{&h.n.Shape, &h.n.Data, &h.n.Bias} {
			if len(*row) == 0 {
				*row = []int{}
			}
		}
		if rows, biases, err := linear.Rows(h.n, h.in); err != api.OK || !sameLists(rows, h.rows) || !slices.Equal(biases, h.biases) {
			t.Error(h.n, rows, biases, err)
		}
	}
	for _, h := range []laid{
		{rows: nil, from: list(), to: list(), slots: 3},
		{rows: [][]int{}, from: nil, to: nil, slots: 3},
		{rows: [][]int{}, from: list(2), to: list(), slots: 3},
		{rows: [][]int{nil, {}}, from: list(), to: list(1, 2), slots: 3},
	} {
		if got, err := linear.Diagonals(h.rows, h.from, h.to, h.slots); err != api.OK || !sameLists(got, make([][]int, 3)) {
			t.Error(h, got, err)
		}
	}
}
