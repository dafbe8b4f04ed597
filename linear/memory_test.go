package linear_test

import (
	"slices"
	"testing"

	"arras/api"
	"arras/linear"
)

const spare = 0x5a5a5a5a5a5a

// roomy is a list with spare room behind it.
func roomy[Entry any](row []Entry, more ...Entry) []Entry {
	return append(slices.Clone(row), more...)[:len(row)]
}

// roomyNode is a node with spare room everywhere.
func roomyNode(n api.Node) api.Node {
	n.Shape, n.Data, n.Bias = roomy(n.Shape, 1, spare), roomy(n.Data, spare, 2), roomy(n.Bias, spare, spare, 3)
	return n
}

// roomyRows are rows with spare room behind them, and behind each of them.
func roomyRows(rows [][]int) [][]int {
	all := make([][]int, len(rows))
	for i, row := range rows {
		all[i] = roomy(row, spare, 1)
	}
	return roomy(all, []int{spare}, []int{1, 2})
}

// wordsOf are all numbers of lists, spare room and lengths too.
func wordsOf(rows ...[]int) []int {
	all := []int{len(rows)}
	for _, row := range rows[:cap(rows)] {
		all = append(append(all, len(row)), row[:cap(row)]...)
	}
	return all
}

// wordsOfNode are all numbers of a node and of the shape in.
func wordsOfNode(n api.Node, in []int) []int {
	return append(wordsOf(n.Shape, n.Data, n.Bias, in), n.Kind, n.A, n.B, n.Lo, n.Hi, n.Size)
}

// fill writes over lists and their spare room.
func fill(rows ...[]int) {
	for _, row := range rows {
		for i := range row[:cap(row)] {
			row[:cap(row)][i] = spare
		}
	}
}

// spoil writes over rows, their spare room too.
func spoil(rows [][]int) {
	fill(rows[:cap(rows)]...)
	clear(rows[:cap(rows)])
}

// overNodes goes over nodes that may be, and some that may not.
func overNodes(do func(n api.Node, in []int)) {
	x := &mixer{state: 9}
	for _, h := range rowsByHand() {
		do(h.n, h.in)
	}
	for range 300 {
		in := x.shape()
		n := x.node(in, 9)
		do(n, in)
		do(x.spoilt(n, in))
	}
}

// overRows goes over rows and places that may be, and some that may not.
func overRows(do func(rows [][]int, from, to []int, slots int)) {
	x := &mixer{state: 10}
	for _, h := range diagonalsByHand() {
		do(h.rows, h.from, h.to, h.slots)
		do(h.rows, h.from, h.to, 0)
	}
	for range 300 {
		slots := 1 + x.below(40)
		rows, from, to := x.drawnRows(slots)
		do(rows, from, to, slots)
		do(rows, x.spoiltPlaces(from, slots), to, slots)
		do(rows, from, x.spoiltPlaces(to, slots), slots)
	}
}

func TestSlotsAreNew(t *testing.T) {
	for _, shape := range append(append(shapes(), noShapes()...), list(5, 13), list(4)) {
		for layout := range 2 {
			handed := roomy(shape, 3, spare)
			was := wordsOf(handed)
			first, err := linear.Slots(handed, layout, 100)
			second, _ := linear.Slots(handed, layout, 100)
			if !slices.Equal(wordsOf(handed), was) {
				t.Error("changed", shape)
			}
			fill(handed)
			want, wantErr := judgedSlots(shape, layout, 100)
			if err != wantErr || !slices.Equal(first, want) {
				t.Error("kept", shape)
			}
			fill(first)
			if !slices.Equal(second, want) {
				t.Error("shared", shape)
			}
		}
	}
}

func TestWhatRowsAreHandedStays(t *testing.T) {
	overNodes(func(n api.Node, in []int) {
		n, in = roomyNode(n), roomy(in, 2, spare)
		was := wordsOfNode(n, in)
		rows, biases, _ := linear.Rows(n, in)
		if !slices.Equal(wordsOfNode(n, in), was) {
			t.Error("changed", n, in)
		}
		spoil(rows)
		fill(biases)
		if !slices.Equal(wordsOfNode(n, in), was) {
			t.Error("shared", n, in)
		}
	})
}

// What is answered stays, whatever becomes of what was handed in and of other answers.
func TestRowsAreNew(t *testing.T) {
	overNodes(func(n api.Node, in []int) {
		handed, handedIn := roomyNode(n), roomy(in, 2, spare)
		rows, biases, err := linear.Rows(handed, handedIn)
		more, moreBiases, _ := linear.Rows(handed, handedIn)
		fill(handed.Shape, handed.Data, handed.Bias, handedIn)
		want, wantBiases, wantErr := judgedRows(n, in)
		if err != wantErr || !sameLists(rows, want) || !slices.Equal(biases, wantBiases) {
			t.Error("kept", n, in)
		}
		spoil(rows)
		fill(biases)
		if !sameLists(more, want) || !slices.Equal(moreBiases, wantBiases) {
			t.Error("shared", n, in)
		}
	})
}

// The lists of a node, and the shape in, may be pieces of one list.
func TestNodesOfOneList(t *testing.T) {
	all := list(1, 1, 1, 1)
	if rows, biases, err := linear.Rows(conv(all, all[:1], all[:1]), all[:3]); err != api.OK || !sameLists(rows, [][]int{{1}}) || !slices.Equal(biases, list(1)) {
		t.Error(rows, biases, err)
	}
	all = list(2, 3)
	if rows, biases, err := linear.Rows(dense(all[:1], all), all[:1]); err != api.OK || !sameLists(rows, [][]int{{2, 3}}) || !slices.Equal(biases, list(2)) {
		t.Error(rows, biases, err)
	}
	if !slices.Equal(all, list(2, 3)) {
		t.Error("changed", all)
	}
}

func TestWhatDiagonalsAreHandedStays(t *testing.T) {
	overRows(func(rows [][]int, from, to []int, slots int) {
		rows, from, to = roomyRows(rows), roomy(from, spare, 0), roomy(to, 1, spare)
		was, wasPlaces := wordsOf(rows...), wordsOf(from, to)
		diagonals, _ := linear.Diagonals(rows, from, to, slots)
		if !slices.Equal(wordsOf(rows...), was) || !slices.Equal(wordsOf(from, to), wasPlaces) {
			t.Error("changed", rows, from, to, slots)
		}
		spoil(diagonals)
		if !slices.Equal(wordsOf(rows...), was) || !slices.Equal(wordsOf(from, to), wasPlaces) {
			t.Error("shared", rows, from, to, slots)
		}
	})
}

// What is answered stays, whatever becomes of what was handed in and of other answers.
func TestDiagonalsAreNew(t *testing.T) {
	overRows(func(rows [][]int, from, to []int, slots int) {
		handed, handedFrom, handedTo := roomyRows(rows), roomy(from, spare, 0), roomy(to, 1, spare)
		first, err := linear.Diagonals(handed, handedFrom, handedTo, slots)
		second, _ := linear.Diagonals(handed, handedFrom, handedTo, slots)
		spoil(handed)
		fill(handedFrom, handedTo)
		want, wantErr := judgedDiagonals(rows, from, to, slots)
		if err != wantErr || !sameLists(first, want) {
			t.Error("kept", rows, from, to, slots)
		}
		spoil(first)
		if !sameLists(second, want) {
			t.Error("shared", rows, from, to, slots)
		}
	})
}

// The rows may be one list, and from and to another one.
func TestRowsOfOneList(t *testing.T) {
	row, places := list(1, 2, 3), list(2, 0, 1)
	rows := [][]int{row, row, row}
	if areDiagonalsAsJudged(t, rows, places, places, 3) != api.OK || areDiagonalsAsJudged(t, rows, places, row[:0], 3) != api.ErrForm {
		t.Error("refused, or taken")
	}
	if areDiagonalsAsJudged(t, [][]int{places, places, places}, places, places, 5) != api.OK {
		t.Error("refused")
	}
	if !slices.Equal(row, list(1, 2, 3)) || !slices.Equal(places, list(2, 0, 1)) {
		t.Error("changed", row, places)
	}
}

// standAlone asks whether no two lists share memory, not in their spare room either: each number stands as it was put there last.
func standAlone(t *testing.T, rows ...[]int) (count int) {
	t.Helper()
	for i, row := range rows {
		for place := range row[:cap(row)] {
			row[:cap(row)][place] = i
		}
	}
	for i, row := range rows {
		for _, v := range row[:cap(row)] {
			if v != i {
				t.Error("shared", i, v)
			}
			count++
		}
	}
	return count
}

func TestListsStandAlone(t *testing.T) {
	count := 0
	overNodes(func(n api.Node, in []int) {
		rows, biases, _ := linear.Rows(n, in)
		count += standAlone(t, append(rows, biases)...)
	})
	overRows(func(rows [][]int, from, to []int, slots int) {
		diagonals, _ := linear.Diagonals(rows, from, to, slots)
		count += standAlone(t, diagonals...)
	})
	if count < 100000 {
		t.Error("too few tries", count)
	}
}

// Whoever asks, and many at once, is answered alike.
func TestManyAtOnce(t *testing.T) {
	for range 8 {
		t.Run("", func(t *testing.T) {
			t.Parallel()
			overNodes(func(n api.Node, in []int) {
				areRowsAsJudged(t, n, in)
				for layout := range 2 {
					areSlotsAsJudged(t, in, layout, 64)
				}
			})
			overRows(func(rows [][]int, from, to []int, slots int) { areDiagonalsAsJudged(t, rows, from, to, slots) })
		})
	}
}
