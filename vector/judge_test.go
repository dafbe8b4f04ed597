package vector_test

import (
	"slices"
	"testing"

	"arras/api"
	"arras/vector"
)

// areJudgedPlaces asks whether all are from 0 to slots - 1, each at most once.
func areJudgedPlaces(places []int, slots int) bool {
	count := map[int]int{}
	for _, place := range places {
		count[place]++
		if place < 0 || place > slots-1 || count[place] > 1 {
			return false
		}
	}
	return true
}

// judgedCheck takes the chapter's words one by one.
func judgedCheck(v api.Vectors) api.Errno {
	if !slices.Contains([]int{4, 8, 16, 32, 64, 128, 256, 512, 1024, 2048}, v.Slots) {
		return api.ErrForm
	}
	for _, plain := range v.Plains {
		if len(plain) > v.Slots {
			return api.ErrForm
		}
	}
	if len(v.Code) == 0 || len(v.Code) > 2048 {
		return api.ErrForm
	}
	for i, n := range v.Code {
		if n.To != i || !isJudgedForm(v, i, n) {
			return api.ErrForm
		}
	}
	if v.Last < 0 || v.Last > len(v.Code)-1 {
		return api.ErrForm
	}
	for _, in := range v.Inputs {
		if !areJudgedPlaces(in.Slots, v.Slots) {
			return api.ErrForm
		}
	}
	if !areJudgedPlaces(v.Out, v.Slots) {
		return api.ErrForm
	}
	return api.OK
}

// isJudgedForm asks whether instruction number i has one of the forms.
func isJudgedForm(v api.Vectors, i int, n api.Instr) bool {
	isValue := func(number int) bool { return 0 <= number && number < i }
	isPlain := 0 <= n.K && n.K < len(v.Plains)
	switch n.Op {
	case 1:
		return n.A == 0 && n.B == 0 && 0 <= n.K && n.K < len(v.Inputs)
	case 2:
		return n.A == 0 && n.B == 0 && isPlain
	case 3, 6:
		return isValue(n.A) && isValue(n.B) && n.K == 0
	case 4, 5:
		return isValue(n.A) && n.B == 0 && isPlain
	case 8:
		return isValue(n.A) && n.B == 0 && 1 <= n.K && n.K <= v.Slots-1
	}
	return false
}

// judgedSteps asks of each number whether a turn has it.
func judgedSteps(v api.Vectors) []int {
	count := map[int]int{}
	for _, n := range v.Code {
		if n.Op == 8 {
			count[n.K]++
		}
	}
	var steps []int
	for k := range count {
		if k >= 1 && k < v.Slots {
			steps = append(steps, k)
		}
	}
	slices.Sort(steps)
	return steps
}

// modulo is the number from 0 to t - 1.
func modulo(v, t int) int { return (v%t + t) % t }

// centered is the number from -(t - 1)/2 to t/2.
func centered(v, t int) int {
	v = modulo(v, t)
	if v > t/2 {
		v -= t
	}
	return v
}

// judgedRun makes a program that may be row by row, of numbers from 0 to t - 1.
func judgedRun(v api.Vectors, inputs [][]int, t uint64) ([][]int, api.Errno) {
	if err := judgedCheck(v); err != api.OK {
		return nil, err
	}
	if t < 2 || t > 1073741824 {
		return nil, api.ErrArg
	}
	if len(inputs) != len(v.Inputs) {
		return nil, api.ErrInput
	}
	for i, in := range v.Inputs {
		if len(inputs[i]) != len(in.Slots) {
			return nil, api.ErrInput
		}
	}
	m := int(t)
	var rows [][]int
	for _, n := range v.Code {
		row := make([]int, v.Slots)
		for s := range row {
			row[s] = modulo(judgedNumber(v, rows, inputs, m, n, s), m)
		}
		rows = append(rows, row)
	}
	for _, row := range rows {
		for s := range row {
			row[s] = centered(row[s], m)
		}
	}
	return rows, api.OK
}

// judgedNumber is what an instruction makes in slot s, of numbers that are below t.
func judgedNumber(v api.Vectors, rows, inputs [][]int, t int, n api.Instr, s int) int {
	plain := 0
	if (n.Op == 2 || n.Op == 4 || n.Op == 5) && s < len(v.Plains[n.K]) {
		plain = modulo(v.Plains[n.K][s], t)
	}
	switch n.Op {
	case 1:
		entry := slices.Index(v.Inputs[n.K].Slots, s)
		if entry < 0 {
			return 0
		}
		return inputs[n.K][entry]
	case 2:
		return plain
	case 3:
		return rows[n.A][s] + rows[n.B][s]
	case 4:
		return rows[n.A][s] + plain
	case 5:
		return rows[n.A][s] * plain
	case 6:
		return rows[n.A][s] * rows[n.B][s]
	}
	return rows[n.A][(s+n.K)%v.Slots]
}

func sameLists(a, b [][]int) bool { return slices.EqualFunc(a, b, slices.Equal[[]int]) }

// isAsJudged asks Check and Steps.
func isAsJudged(t *testing.T, v api.Vectors) api.Errno {
	t.Helper()
	want := judgedCheck(v)
	if err := vector.Check(v); err != want {
		t.Errorf("Check: %v, want %v: %+v", err, want, v)
	}
	if steps := vector.Steps(v); !slices.Equal(steps, judgedSteps(v)) {
		t.Errorf("Steps: %v, want %v: %+v", steps, judgedSteps(v), v)
	}
	return want
}

// runsAsJudged asks Run.
func runsAsJudged(t *testing.T, v api.Vectors, inputs [][]int, m uint64) api.Errno {
	t.Helper()
	want, wantErr := judgedRun(v, inputs, m)
	got, err := vector.Run(v, inputs, m)
	if err != wantErr || !sameLists(got, want) || err != api.OK && got != nil {
		t.Errorf("Run: %v %v, want %v %v: %+v of %v modulo %d", got, err, want, wantErr, v, inputs, m)
	}
	return wantErr
}

// Judges that take whatever there is would find nothing.
func TestJudges(t *testing.T) {
	for _, h := range byHand() {
		if got, err := judgedRun(h.v, h.inputs, h.t); err != api.OK || !sameLists(got, h.values) {
			t.Error(h.v, got, err)
		}
	}
	for _, h := range []struct{ v, t, centered int }{{5, 7, -2}, {3, 6, 3}, {4, 6, -2}, {-3, 6, 3}, {-4, 7, 3}, {1, 2, 1}, {-1, 2, 1}, {7, 7, 0}} {
		if got := centered(h.v, h.t); got != h.centered {
			t.Error(h, got)
		}
	}
	v := sum()
	v.Last = 3
	if judgedCheck(v) != api.ErrForm || !slices.Equal(judgedSteps(v), list(1)) {
		t.Error("a judge that takes anything")
	}
}
