package linear_test

import (
	"maps"
	"math"
	"slices"
	"testing"

	"arras/api"
	"arras/linear"
)

// mixer tells words that look like chance, the same ones each time.
type mixer struct{ state uint64 }

func (x *mixer) next() uint64 {
	x.state += 0x9e3779b97f4a7c15
	z := x.state
	z = (z ^ z>>30) * 0xbf58476d1ce4e5b9
	z = (z ^ z>>27) * 0x94d049bb133111eb
	return z ^ z>>31
}

// below is a number below an end.
func (x *mixer) below(end int) int { return int(x.next() % uint64(end)) }

// one is one of a row.
func one[Thing any](x *mixer, things ...Thing) Thing { return things[x.below(len(things))] }

// values are numbers of at most a size; many are 0.
func (x *mixer) values(count, size int) []int {
	row := make([]int, count)
	for i := range row {
		row[i] = one(x, 0, x.below(2*size+1)-size)
	}
	return row
}

// shape is one that may be.
func (x *mixer) shape() []int {
	for {
		var shape []int
		for range one(x, 1, 2, 3, 3, 3) {
			shape = append(shape, 1+x.below(one(x, 2, 5, 8, 64)))
		}
		if isShape(shape) {
			return shape
		}
	}
}

// likeShape is a shape of as many entries.
func (x *mixer) likeShape(shape []int) []int {
	for range 40 {
		other := x.shape()
		if entriesOf(other) == entriesOf(shape) {
			return other
		}
	}
	return list(entriesOf(shape))
}

// node is one of the four kinds that may be behind an input of that shape, of numbers of at most a size.
func (x *mixer) node(in []int, size int) api.Node {
	kind := one(x, api.KindDense, api.KindConv, api.KindPool, api.KindFlat)
	if kind == api.KindFlat {
		return flat(x.likeShape(in)...)
	}
	if kind == api.KindDense || len(in) != 3 {
		numbers := 1 + x.below(one(x, 2, 6, 64))
		return dense(x.values(numbers, size), x.values(numbers*entriesOf(in), size))
	}
	if kind == api.KindPool {
		side := 1 + x.below(8)
		for in[1]%side != 0 || in[2]%side != 0 {
			side--
		}
		return pool(side)
	}
	high, wide := 1+x.below(in[1]), 1+x.below(in[2])
	most := 64 / ((in[1] - high + 1) * (in[2] - wide + 1))
	shape := list(one(x, 1, 1+x.below(most), most), in[0], high, wide)
	return conv(shape, x.values(shape[0], size), x.values(entriesOf(shape), size))
}

// places are so many unlike slots, in any order.
func (x *mixer) places(count, slots int) []int {
	row := make([]int, slots)
	for i := range row {
		other := x.below(i + 1)
		row[i], row[other] = row[other], i
	}
	return row[:count]
}

// times are the rows times numbers.
func times(rows [][]int, numbers []int) []int {
	var all []int
	for _, row := range rows {
		total := 0
		for entry, weight := range row {
			total += weight * numbers[entry]
		}
		all = append(all, total)
	}
	return all
}

// Rows and biases make of a tensor's numbers what layer 17 tells.
func TestDrawnRows(t *testing.T) {
	x, kinds := &mixer{state: 1}, map[int]int{}
	for range 3000 {
		in := x.shape()
		n := x.node(in, one(x, 1, 3, 20))
		if areRowsAsJudged(t, n, in) != api.OK {
			t.Fatal("drawn nodes may be", n, in)
		}
		rows, biases, _ := linear.Rows(n, in)
		for range 3 {
			numbers := x.values(entriesOf(in), 9)
			want := runs(t, n, in, numbers)
			got := times(rows, numbers)
			for number, bias := range biases {
				got[number] += bias
			}
			if !slices.Equal(got, want) {
				t.Errorf("%v, want %v: %+v behind %v of %v", got, want, n, in, numbers)
			}
		}
		kinds[n.Kind]++
	}
	if kinds[3] < 500 || kinds[4] < 300 || kinds[5] < 300 || kinds[9] < 500 {
		t.Error("too few of a kind", kinds)
	}
}

// Numbers so great that no span may be are read off too: layer 17 tells which one comes where.
func TestDrawnRowsAreProbed(t *testing.T) {
	x, kinds := &mixer{state: 2}, map[int]int{}
	for range 250 {
		in := x.shape()
		n := x.node(in, api.MaxValue)
		if areRowsAsJudged(t, n, in) != api.OK {
			t.Fatal("drawn nodes may be", n, in)
		}
		rows, biases, _ := linear.Rows(n, in)
		if want, wantBiases := probedRows(t, n, in); !sameLists(rows, want) || !slices.Equal(biases, wantBiases) {
			t.Errorf("%v %v, want %v %v: %+v behind %v", rows, biases, want, wantBiases, n, in)
		}
		kinds[n.Kind]++
	}
	if len(kinds) != 4 {
		t.Error("too few kinds", kinds)
	}
}

// spoilt is a node of which something was put otherwise, or the shape in.
func (x *mixer) spoilt(n api.Node, in []int) (api.Node, []int) {
	n.Shape, n.Data, n.Bias, in = slices.Clone(n.Shape), slices.Clone(n.Data), slices.Clone(n.Bias), slices.Clone(in)
	row := one(x, &n.Shape, &n.Data, &n.Bias, &in)
	number := one(x, &n.Kind, &n.A, &n.B, &n.Lo, &n.Hi, &n.Size)
	if len(*row) > 0 && x.below(2) == 0 {
		number = &(*row)[x.below(len(*row))]
	}
	switch x.below(8) {
	case 0:
		*row = append(*row, x.wild())
	case 1:
		*row = append(*row, 1)
	case 2:
		*row = (*row)[:x.below(len(*row)+1)]
	case 3:
		*number++
	case 4:
		*number--
	case 5:
		n.Kind = 1 + x.below(9)
	case 6:
		in = x.shape()
	default:
		*number = x.wild()
	}
	return n, in
}

// wild is a number of any size.
func (x *mixer) wild() int {
	return one(x, 0, 1, 2, 3, -1, 64, 65, api.MaxValue, api.MaxValue+1, -api.MaxValue-1, math.MaxInt, math.MinInt, 1<<32, 1<<32+1, int(x.next()))
}

func TestSpoiltNodes(t *testing.T) {
	x, told := &mixer{state: 3}, map[api.Errno]int{}
	for range 2000 {
		in := x.shape()
		n := x.node(in, api.MaxValue)
		for range 20 {
			other, otherIn := n, in
			for range 1 + x.below(3) {
				other, otherIn = x.spoilt(other, otherIn)
			}
			told[areRowsAsJudged(t, other, otherIn)]++
		}
	}
	if told[api.OK] < 2000 || told[api.ErrForm] < 20000 || len(told) != 2 {
		t.Error("too few tries", told)
	}
}

// drawnRows are rows from slots to slots.
func (x *mixer) drawnRows(slots int) (rows [][]int, from, to []int) {
	from, to = x.places(x.below(min(slots, 64)+1), slots), x.places(x.below(min(slots, 64)+1), slots)
	for range to {
		row := x.values(len(from), one(x, 1, 5, 1<<40))
		if x.below(3) == 0 {
			clear(row)
		}
		rows = append(rows, row)
	}
	return rows, from, to
}

// Diagonals of whatever rows: moved, multiplied and summed up they are the rows.
func TestDrawnDiagonals(t *testing.T) {
	x, empty, full := &mixer{state: 4}, 0, 0
	for i := range 4000 {
		slots := one(x, 1+i%9, 1+x.below(70), 1<<x.below(8), 1+x.below(300))
		rows, from, to := x.drawnRows(slots)
		if areDiagonalsAsJudged(t, rows, from, to, slots) != api.OK {
			t.Fatal("drawn rows may be", rows, from, to, slots)
		}
		diagonals, _ := linear.Diagonals(rows, from, to, slots)
		areTheRows(t, x, diagonals, rows, from, to)
		for _, diagonal := range diagonals {
			if len(diagonal) == 0 {
				empty++
			} else {
				full++
			}
		}
	}
	if empty < 20000 || full < 20000 {
		t.Error("too few diagonals", empty, full)
	}
}

func TestDrawnDiagonalsOfManySlots(t *testing.T) {
	x := &mixer{state: 5}
	for _, slots := range list(512, 1000, 2048, 4095, 4096) {
		rows, from, to := x.drawnRows(slots)
		if areDiagonalsAsJudged(t, rows, from, to, slots) != api.OK {
			t.Fatal("drawn rows may be", rows, from, to, slots)
		}
		diagonals, _ := linear.Diagonals(rows, from, to, slots)
		areTheRows(t, x, diagonals, rows, from, to)
	}
}

// areTheRows asks of slots, in which anything may stand beside from's, whether all diagonals together make what the rows do.
func areTheRows(t *testing.T, x *mixer, diagonals, rows [][]int, from, to []int) {
	t.Helper()
	slots := x.values(len(diagonals), 1000)
	var numbers []int
	for _, slot := range from {
		numbers = append(numbers, slots[slot])
	}
	want := make([]int, len(slots))
	for number, v := range times(rows, numbers) {
		want[to[number]] = v
	}
	if got := turned(diagonals, slots); !slices.Equal(got, want) {
		t.Errorf("%v, want %v: %v of %v from %v to %v of %v", got, want, diagonals, rows, from, to, slots)
	}
}

// turned is the sum over d of diagonal d, slot by slot times the slots moved by d.
func turned(diagonals [][]int, slots []int) []int {
	sum := make([]int, len(slots))
	moved := slices.Clone(slots)
	for _, diagonal := range diagonals {
		for s, weight := range diagonal {
			sum[s] += weight * moved[s]
		}
		moved = append(moved[1:], moved[0])
	}
	return sum
}

// laidOut are the slots of a tensor.
func laidOut(t *testing.T, shape []int, layout, slots int) []int {
	t.Helper()
	places, err := linear.Slots(shape, layout, slots)
	if err != api.OK {
		t.Fatal(err, shape, layout, slots)
	}
	return places
}

// Nodes of all four kinds, between layouts 0 and 1: what comes out in the slots, with the biases, is what layer 17 tells.
func TestNodesBetweenLayouts(t *testing.T) {
	x, told := &mixer{state: 6}, map[[3]int]int{}
	for range 2500 {
		in := x.shape()
		n := x.node(in, 9)
		layouts := [2]int{x.below(2), x.below(2)}
		slots := one(x, 128, 128+x.below(20), 256)
		from, to := laidOut(t, in, layouts[0], slots), laidOut(t, shapeOf(n, in), layouts[1], slots)
		rows, biases, err := linear.Rows(n, in)
		diagonals, errDiagonals := linear.Diagonals(rows, from, to, slots)
		if err != api.OK || errDiagonals != api.OK {
			t.Fatal(err, errDiagonals, n, in)
		}
		areTheRows(t, x, diagonals, rows, from, to)
		numbers := x.values(len(from), 20)
		hidden, want := x.values(slots, 99), make([]int, slots)
		for entry, slot := range from {
			hidden[slot] = numbers[entry]
		}
		for number, v := range runs(t, n, in, numbers) {
			want[to[number]] = v
		}
		got := turned(diagonals, hidden)
		for number, slot := range to {
			got[slot] += biases[number]
		}
		if !slices.Equal(got, want) {
			t.Errorf("%v, want %v: %+v behind %v of %v, layouts %v", got, want, n, in, numbers, layouts)
		}
		told[[3]int{n.Kind, layouts[0], layouts[1]}]++
	}
	if len(told) != 16 || slices.Min(slices.Collect(maps.Values(told))) < 40 {
		t.Error("too few tries", told)
	}
}
