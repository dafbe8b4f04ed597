package linear_test

import (
	"slices"
	"testing"

	"arras/api"
	"arras/interval"
	"arras/linear"
)

// isShape asks whether numbers are 1 to 3, each 1 or more, of at most MaxEntries together.
func isShape(shape []int) bool {
	if len(shape) < 1 || len(shape) > 3 || slices.Min(shape) < 1 || slices.Max(shape) > 64 {
		return false
	}
	return entriesOf(shape) <= 64
}

// entriesOf are those of numbers that are small.
func entriesOf(shape []int) int {
	product := 1
	for _, v := range shape {
		product *= v
	}
	return product
}

// overPicture goes through a tensor's entries, the last place running fastest.
func overPicture(shape []int, do func(c, y, x int)) {
	for c := range shape[0] {
		for y := range shape[1] {
			for x := range shape[2] {
				do(c, y, x)
			}
		}
	}
}

// judgedSlots takes the chapter's words one by one.
func judgedSlots(shape []int, layout, slots int) ([]int, api.Errno) {
	if !isShape(shape) || layout != 0 && layout != 1 {
		return nil, api.ErrShape
	}
	var list []int
	if layout == 1 && len(shape) == 3 {
		pitch := 1
		for pitch < shape[1]*shape[2] {
			pitch *= 2
		}
		inChannel := map[int]int{}
		overPicture(shape, func(c, y, x int) {
			list = append(list, c*pitch+inChannel[c])
			inChannel[c]++
		})
	} else {
		for entry := range entriesOf(shape) {
			list = append(list, entry)
		}
	}
	for _, slot := range list {
		if slot >= slots {
			return nil, api.ErrFit
		}
	}
	return list, api.OK
}

// mayStand asks whether a node is one of the four kinds and may be behind an input of a shape.
func mayStand(n api.Node, in []int) bool {
	if !isShape(in) || n.A != 0 || n.B != 0 || n.Lo != 0 || n.Hi != 0 {
		return false
	}
	for _, v := range slices.Concat(n.Data, n.Bias) {
		if v < -1048576 || v > 1048576 {
			return false
		}
	}
	isPicture := len(in) == 3
	switch n.Kind {
	case 3:
		return len(n.Shape) == 0 && n.Size == 0 && len(n.Bias) >= 1 && len(n.Bias) <= 64 && len(n.Data) == len(n.Bias)*entriesOf(in)
	case 4:
		if n.Size != 0 || len(n.Shape) != 4 || slices.Min(n.Shape) < 1 || slices.Max(n.Shape) > 64 {
			return false
		}
		if len(n.Data) != entriesOf(n.Shape) || len(n.Bias) != n.Shape[0] {
			return false
		}
		return isPicture && in[0] == n.Shape[1] && n.Shape[2] <= in[1] && n.Shape[3] <= in[2] && isShape(shapeOf(n, in))
	case 5:
		if len(n.Shape) != 0 || len(n.Data) != 0 || len(n.Bias) != 0 || n.Size < 1 {
			return false
		}
		return isPicture && in[1]/n.Size*n.Size == in[1] && in[2]/n.Size*n.Size == in[2]
	case 9:
		return n.Size == 0 && len(n.Data) == 0 && len(n.Bias) == 0 && isShape(n.Shape) && entriesOf(n.Shape) == entriesOf(in)
	}
	return false
}

// shapeOf is that of a node of the four kinds that may be.
func shapeOf(n api.Node, in []int) []int {
	switch n.Kind {
	case 3:
		return []int{len(n.Bias)}
	case 4:
		return []int{n.Shape[0], in[1] - n.Shape[2] + 1, in[2] - n.Shape[3] + 1}
	case 5:
		return []int{in[0], in[1] / n.Size, in[2] / n.Size}
	}
	return n.Shape
}

// entriesAt are a picture's entries by their places.
func entriesAt(shape []int) [][][]int {
	entries, count := make([][][]int, shape[0]), 0
	for c := range entries {
		entries[c] = make([][]int, shape[1])
	}
	overPicture(shape, func(c, y, x int) {
		entries[c][y] = append(entries[c][y], count)
		count++
	})
	return entries
}

// judgedRows goes by the sums of layer 17, one after the other.
func judgedRows(n api.Node, in []int) ([][]int, []int, api.Errno) {
	if !mayStand(n, in) {
		return nil, nil, api.ErrForm
	}
	shape := shapeOf(n, in)
	rows, biases := make([][]int, entriesOf(shape)), make([]int, entriesOf(shape))
	for number := range rows {
		rows[number] = make([]int, entriesOf(in))
	}
	switch n.Kind {
	case 3:
		for number, bias := range n.Bias {
			biases[number] = bias
			copy(rows[number], n.Data[number*entriesOf(in):])
		}
	case 4:
		judgedConv(n, in, rows, biases)
	case 5:
		from := entriesAt(in)
		number := 0
		overPicture(shape, func(c, y, x int) {
			for i := range n.Size {
				for j := range n.Size {
					rows[number][from[c][y*n.Size+i][x*n.Size+j]]++
				}
			}
			number++
		})
	case 9:
		for entry := range rows {
			rows[entry][entry] = 1
		}
	}
	return rows, biases, api.OK
}

// judgedConv fills the rows and biases of a Conv.
func judgedConv(n api.Node, in []int, rows [][]int, biases []int) {
	from, number := entriesAt(in), 0
	overPicture(shapeOf(n, in), func(o, y, x int) {
		weights := n.Data[o*entriesOf(n.Shape[1:]):]
		overPicture(n.Shape[1:], func(c, i, j int) {
			rows[number][from[c][y+i][x+j]] += weights[0]
			weights = weights[1:]
		})
		biases[number] = n.Bias[o]
		number++
	})
}

// fromOne are the numbers from 1 on, as many as a list has.
func fromOne(list []int) []int {
	numbers := make([]int, len(list))
	for i := range numbers {
		numbers[i] = i + 1
	}
	return numbers
}

// runs asks layer 17 what a node tells, behind one input.
func runs(t *testing.T, n api.Node, in, numbers []int) []int {
	t.Helper()
	input := api.Node{Kind: api.KindInput, Shape: in, Lo: min(slices.Min(numbers), 0), Hi: max(slices.Max(numbers), 1)}
	list, err := interval.Run(api.Graph{Nodes: []api.Node{input, n}, Out: 1}, [][]int{numbers})
	if err != api.OK {
		t.Fatal(err, n, in)
	}
	return list
}

// probedRows asks layer 17 of tensors that are 1 in one place and 0 in all others. Which weight comes is asked, not how great it is: so no sum is beyond MaxValue.
func probedRows(t *testing.T, n api.Node, in []int) ([][]int, []int) {
	t.Helper()
	find := func(list []int, number int) int {
		if len(list) == 0 || number == 0 {
			return number
		}
		return list[number-1]
	}
	byWeights, byBiases := n, n
	byWeights.Data, byWeights.Bias = fromOne(n.Data), make([]int, len(n.Bias))
	byBiases.Data, byBiases.Bias = make([]int, len(n.Data)), fromOne(n.Bias)
	numbers := make([]int, entriesOf(in))
	var biases []int
	for _, number := range runs(t, byBiases, in, numbers) {
		biases = append(biases, find(n.Bias, number))
	}
	rows := make([][]int, len(biases))
	for entry := range numbers {
		numbers[entry] = 1
		for number, v := range runs(t, byWeights, in, numbers) {
			rows[number] = append(rows[number], find(n.Data, v))
		}
		numbers[entry] = 0
	}
	return rows, biases
}

// arePlaces asks whether all are below slots, and none stands there twice.
func arePlaces(places []int, slots int) bool {
	count := map[int]int{}
	for _, place := range places {
		count[place]++
		if place < 0 || place >= slots || count[place] > 1 {
			return false
		}
	}
	return true
}

// judgedDiagonals asks of each number of each diagonal which entry and which number stand there.
func judgedDiagonals(rows [][]int, from, to []int, slots int) ([][]int, api.Errno) {
	if slots < 1 || slots > 4096 || len(rows) != len(to) || !arePlaces(from, slots) || !arePlaces(to, slots) {
		return nil, api.ErrForm
	}
	for _, row := range rows {
		if len(row) != len(from) {
			return nil, api.ErrForm
		}
	}
	entries, numbers := standing(from, slots), standing(to, slots)
	diagonals := make([][]int, slots)
	for d := range diagonals {
		diagonal, isEmpty := make([]int, slots), true
		for s := range diagonal {
			entry, number := entries[(s+d)%slots], numbers[s]
			if entry >= 0 && number >= 0 {
				diagonal[s] = rows[number][entry]
				isEmpty = isEmpty && diagonal[s] == 0
			}
		}
		if !isEmpty {
			diagonals[d] = diagonal
		}
	}
	return diagonals, api.OK
}

// standing tells of each slot what stands there, and of one in which nothing does -1.
func standing(places []int, slots int) []int {
	list := slices.Repeat([]int{-1}, slots)
	for i, place := range places {
		list[place] = i
	}
	return list
}

func sameLists(a, b [][]int) bool { return slices.EqualFunc(a, b, slices.Equal[[]int]) }

// areSlotsAsJudged asks Slots.
func areSlotsAsJudged(t *testing.T, shape []int, layout, slots int) api.Errno {
	t.Helper()
	want, wantErr := judgedSlots(shape, layout, slots)
	if got, err := linear.Slots(shape, layout, slots); err != wantErr || !slices.Equal(got, want) {
		t.Errorf("Slots of %v, layout %d, of %d: %v %v, want %v %v", shape, layout, slots, got, err, want, wantErr)
	}
	return wantErr
}

// areRowsAsJudged asks Rows.
func areRowsAsJudged(t *testing.T, n api.Node, in []int) api.Errno {
	t.Helper()
	want, wantBiases, wantErr := judgedRows(n, in)
	rows, biases, err := linear.Rows(n, in)
	if err != wantErr || !sameLists(rows, want) || !slices.Equal(biases, wantBiases) {
		t.Errorf("Rows of %+v behind %v: %v %v %v, want %v %v %v", n, in, rows, biases, err, want, wantBiases, wantErr)
	}
	return wantErr
}

// areDiagonalsAsJudged asks Diagonals.
func areDiagonalsAsJudged(t *testing.T, rows [][]int, from, to []int, slots int) api.Errno {
	t.Helper()
	want, wantErr := judgedDiagonals(rows, from, to, slots)
	if got, err := linear.Diagonals(rows, from, to, slots); err != wantErr || !sameLists(got, want) {
		t.Errorf("Diagonals of %v from %v to %v of %d: %v %v, want %v %v", rows, from, to, slots, got, err, want, wantErr)
	}
	return wantErr
}

// Judges that take whatever there is would find nothing.
func TestJudges(t *testing.T) {
	if got, err := judgedSlots([]int{2, 3, 1}, 1, 8); err != api.OK || !slices.Equal(got, []int{0, 1, 2, 4, 5, 6}) {
		t.Error(got, err)
	}
	for _, h := range rowsByHand() {
		if rows, biases, err := judgedRows(h.n, h.in); err != api.OK || !sameLists(rows, h.rows) || !slices.Equal(biases, h.biases) {
			t.Error(h.n, rows, biases, err)
		}
		if rows, biases := probedRows(t, h.n, h.in); !sameLists(rows, h.rows) || !slices.Equal(biases, h.biases) {
			t.Error(h.n, rows, biases)
		}
	}
	for _, h := range diagonalsByHand() {
		if got, err := judgedDiagonals(h.rows, h.from, h.to, h.slots); err != api.OK || !sameLists(got, h.diagonals) {
			t.Error(h.rows, got, err)
		}
	}
}
