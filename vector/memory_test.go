package vector_test

import (
	"slices"
	"testing"

	"arras/api"
	"arras/vector"
)

const spare = 0x5a5a5a5a5a5a

// roomy is a list with spare room behind it.
func roomy[Entry any](row []Entry, more ...Entry) []Entry {
	return append(slices.Clone(row), more...)[:len(row)]
}

// roomyRows are rows with spare room behind them, and behind each of them.
func roomyRows(rows [][]int) [][]int {
	all := make([][]int, len(rows))
	for i, row := range rows {
		all[i] = roomy(row, spare, 1)
	}
	return roomy(all, []int{spare}, []int{1, 2})
}

// roomyProgram is a program with spare room everywhere.
func roomyProgram(v api.Vectors) api.Vectors {
	v.Plains, v.Out = roomyRows(v.Plains), roomy(v.Out, 1, spare)
	v.Code = roomy(v.Code, input(spare), turn(spare, 1))
	v.Inputs = roomy(v.Inputs, api.Input{Lo: spare})
	for i := range v.Inputs {
		v.Inputs[i].Slots = roomy(v.Inputs[i].Slots, spare, 2, 3)
	}
	return v
}

// wordsOf are all numbers of lists, spare room and lengths too.
func wordsOf(rows ...[]int) []int {
	all := []int{len(rows)}
	for _, row := range rows[:cap(rows)] {
		all = append(append(all, len(row)), row[:cap(row)]...)
	}
	return all
}

// wordsOfProgram are all numbers of a program.
func wordsOfProgram(v api.Vectors) []int {
	all := append(wordsOf(v.Plains...), v.Slots, v.Last, len(v.Code), len(v.Inputs))
	all = append(all, wordsOf(v.Out)...)
	for _, n := range v.Code[:cap(v.Code)] {
		all = append(all, n.Op, n.To, n.A, n.B, n.K)
	}
	for _, in := range v.Inputs[:cap(v.Inputs)] {
		all = append(append(all, in.Lo, in.Hi), wordsOf(in.Slots)...)
	}
	return all
}

// fill writes over lists and their spare room.
func fill(rows ...[]int) {
	for _, row := range rows {
		for i := range row[:cap(row)] {
			row[:cap(row)][i] = spare
		}
	}
}

// spoil writes over rows, their spare room too.
func spoil(rows [][]int) {
	fill(rows[:cap(rows)]...)
	clear(rows[:cap(rows)])
}

// spoilProgram writes over all lists of a program.
func spoilProgram(v api.Vectors) {
	spoil(v.Plains)
	fill(v.Out)
	clear(v.Code[:cap(v.Code)])
	for _, in := range v.Inputs[:cap(v.Inputs)] {
		fill(in.Slots)
	}
	clear(v.Inputs[:cap(v.Inputs)])
}

// overPrograms goes over programs that may be, and some that may not.
func overPrograms(do func(v api.Vectors, rows [][]int, t uint64)) {
	x := &mixer{state: 9}
	for _, h := range byHand() {
		do(h.v, h.inputs, h.t)
	}
	for i := range 300 {
		v := x.program(1 + i%30)
		do(v, x.rows(v), x.modulus())
		do(v, x.rows(v), 1)
		do(v, x.rows(v)[1:], 97)
		x.spoil(&v)
		do(v, x.rows(v), x.modulus())
	}
}

func TestWhatIsHandedInStays(t *testing.T) {
	overPrograms(func(v api.Vectors, rows [][]int, m uint64) {
		v, rows = roomyProgram(v), roomyRows(rows)
		was, wasRows := wordsOfProgram(v), wordsOf(rows...)
		vector.Check(v)
		steps := vector.Steps(v)
		values, _ := vector.Run(v, rows, m)
		if !slices.Equal(wordsOfProgram(v), was) || !slices.Equal(wordsOf(rows...), wasRows) {
			t.Error("changed", v, rows)
		}
		fill(steps)
		spoil(values)
		if !slices.Equal(wordsOfProgram(v), was) || !slices.Equal(wordsOf(rows...), wasRows) {
			t.Error("shared", v, rows)
		}
	})
}

// What is answered stays, whatever becomes of what was handed in and of other answers.
func TestAnswersAreNew(t *testing.T) {
	overPrograms(func(v api.Vectors, rows [][]int, m uint64) {
		handed, handedRows := roomyProgram(v), roomyRows(rows)
		steps, moreSteps := vector.Steps(handed), vector.Steps(handed)
		values, err := vector.Run(handed, handedRows, m)
		more, _ := vector.Run(handed, handedRows, m)
		spoilProgram(handed)
		spoil(handedRows)
		want, wantErr := judgedRun(v, rows, m)
		if err != wantErr || !sameLists(values, want) || !slices.Equal(steps, judgedSteps(v)) {
			t.Error("kept", v, rows)
		}
		spoil(values)
		fill(steps)
		if !sameLists(more, want) || !slices.Equal(moreSteps, judgedSteps(v)) {
			t.Error("shared", v, rows)
		}
	})
}

// The rows, the places and the plains may be one list.
func TestOneList(t *testing.T) {
	row := list(2, 0, 1)
	v := api.Vectors{Slots: 4, Inputs: inputs(row, row), Plains: [][]int{row, row[:2]}, Code: code(input(0), input(1), mul(0, 1), addPlain(2, 0), mulPlain(3, 1)), Last: 4, Out: row}
	if isAsJudged(t, v) != api.OK || runsAsJudged(t, v, [][]int{row, row}, 97) != api.OK {
		t.Error("refused")
	}
	if !slices.Equal(row, list(2, 0, 1)) {
		t.Error("changed", row)
	}
}

// No two values share memory, not in their spare room either: each number stands as it was put there last.
func TestValuesStandAlone(t *testing.T) {
	count := 0
	overPrograms(func(v api.Vectors, rows [][]int, m uint64) {
		values, _ := vector.Run(v, rows, m)
		for i, row := range values {
			for s := range row[:cap(row)] {
				row[:cap(row)][s] = i
			}
		}
		for i, row := range values {
			for _, number := range row[:cap(row)] {
				if number != i {
					t.Error("shared", i, number)
				}
				count++
			}
		}
	})
	if count < 20000 {
		t.Error("too few tries", count)
	}
}

// Whoever asks, and many at once, is answered alike.
func TestManyAtOnce(t *testing.T) {
	for range 8 {
		t.Run("", func(t *testing.T) {
			t.Parallel()
			overPrograms(func(v api.Vectors, rows [][]int, m uint64) {
				isAsJudged(t, v)
				runsAsJudged(t, v, rows, m)
			})
		})
	}
}
