package lower_test

import (
	"slices"
	"testing"

	"arras/api"
	"arras/graph"
	"arras/interval"
	"arras/linear"
	"arras/lower"
	"arras/tidy"
	"arras/vector"
)

// judgedSlots are the slots of a tensor of a shape that may be, by the Layout.
func judgedSlots(shape []int, layout int) []int {
	pitch, channel := 1, graph.Entries(shape)
	if layout == 1 && len(shape) == 3 {
		channel = shape[1] * shape[2]
	}
	for pitch < channel {
		pitch *= 2
	}
	var slots []int
	for entry := range graph.Entries(shape) {
		slots = append(slots, entry/channel*pitch+entry%channel)
	}
	return slots
}

// judge lays a program by the chapter's words, sentence by sentence.
type judge struct {
	v      api.Vectors
	o      api.Options
	shapes [][]int
	stand  [][]int
	value  []int
}

// judgedLower takes the chapter's words one by one.
func judgedLower(g api.Graph, o api.Options, slots int) (api.Vectors, api.Errno) {
	mayBe := []int{4, 8, 16, 32, 64, 128, 256, 512, 1024, 2048}
	if o.Layout != 0 && o.Layout != 1 || !slices.Contains(mayBe, slots) {
		return api.Vectors{}, api.ErrArg
	}
	if _, err := interval.Spans(g); err != api.OK {
		return api.Vectors{}, err
	}
	if o.Tidy {
		g, _ = tidy.Tidy(g)
	}
	j := &judge{v: api.Vectors{Slots: slots}, o: o}
	j.shapes, _ = graph.Check(g)
	for _, shape := range j.shapes {
		j.stand = append(j.stand, judgedSlots(shape, o.Layout))
	}
	if slices.Max(slices.Concat(j.stand...)) >= slots {
		return api.Vectors{}, api.ErrFit
	}
	for i, n := range g.Nodes {
		j.value = append(j.value, j.node(i, n))
	}
	if len(j.v.Code) > 2048 {
		return api.Vectors{}, api.ErrBig
	}
	j.v.Last, j.v.Out = j.value[g.Out], j.stand[g.Out]
	return j.v, api.OK
}

// add lays an instruction.
func (j *judge) add(op, a, b, k int) int {
	j.v.Code = append(j.v.Code, api.Instr{Op: op, To: len(j.v.Code), A: a, B: b, K: k})
	return len(j.v.Code) - 1
}

// plain is the place of a row among the plains.
func (j *judge) plain(row []int) int {
	for place, other := range j.v.Plains {
		if slices.Equal(row, other) {
			return place
		}
	}
	j.v.Plains = append(j.v.Plains, row)
	return len(j.v.Plains) - 1
}

// in is the plain of one number, or of as many as slots, in a node's slots.
func (j *judge) in(i int, numbers ...int) int {
	row := make([]int, j.v.Slots)
	for place, slot := range j.stand[i] {
		row[slot] = numbers[place%len(numbers)]
	}
	return j.plain(row)
}

// node lays node i, and tells its value.
func (j *judge) node(i int, n api.Node) int {
	switch n.Kind {
	case 1:
		j.v.Inputs = append(j.v.Inputs, api.Input{Lo: n.Lo, Hi: n.Hi, Slots: slices.Clone(j.stand[i])})
		return j.add(1, 0, 0, len(j.v.Inputs)-1)
	case 2:
		return j.add(2, 0, 0, j.in(i, n.Data...))
	case 6:
		return j.add(3, j.value[n.A], j.value[n.B], 0)
	case 7:
		return j.add(5, j.value[n.A], 0, j.in(i, n.Data[0]))
	case 8:
		return j.power(i, j.value[n.A], n.Data[0], n.Data[1], n.Data[2])
	case 9:
		if slices.Equal(j.stand[i], j.stand[n.A]) {
			return j.value[n.A]
		}
	}
	x, from := j.value[n.A], n.A
	n.A = 0
	rows, biases, _ := linear.Rows(n, j.shapes[from])
	value := 0
	if j.o.Giant {
		value = j.giant(x, j.diagonals(rows, j.stand[from], j.stand[i]))
	} else {
		value = j.plainly(x, j.diagonals(rows, j.stand[from], j.stand[i]))
	}
	if slices.Min(biases) != 0 || slices.Max(biases) != 0 {
		value = j.add(4, value, 0, j.in(i, biases...))
	}
	return value
}

// power goes through all mixtures of there and not there.
func (j *judge) power(i, x, c, b, a int) int {
	square, once, value := 0, x, 0
	if a != 0 {
		square = j.add(6, x, x, 0)
		if a != 1 {
			square = j.add(5, square, 0, j.in(i, a))
		}
	}
	if b != 0 && b != 1 {
		once = j.add(5, x, 0, j.in(i, b))
	}
	switch {
	case a != 0 && b != 0:
		value = j.add(3, square, once, 0)
	case a != 0:
		value = square
	case b != 0:
		value = once
	default:
		value = j.zero(x)
	}
	if c != 0 {
		value = j.add(4, value, 0, j.in(i, c))
	}
	return value
}

// zero is x times 0 everywhere.
func (j *judge) zero(x int) int {
	return j.add(5, x, 0, j.plain(make([]int, j.v.Slots)))
}

// diagonals are those that aren't empty, by their numbers: number by number, by the words of layer 19.
func (j *judge) diagonals(rows [][]int, from, to []int) map[int][]int {
	all := map[int][]int{}
	for d := range j.v.Slots {
		diagonal, weights := make([]int, j.v.Slots), 0
		for number, s := range to {
			entry := slices.Index(from, (s+d)%j.v.Slots)
			if entry >= 0 && rows[number][entry] != 0 {
				diagonal[s] = rows[number][entry]
				weights++
			}
		}
		if weights > 0 {
			all[d] = diagonal
		}
	}
	return all
}

// plainly lays diagonal by diagonal.
func (j *judge) plainly(x int, diagonals map[int][]int) int {
	sum, isFirst := 0, true
	for d := range j.v.Slots {
		diagonal, isThere := diagonals[d]
		if !isThere {
			continue
		}
		turned := x
		if d != 0 {
			turned = j.add(8, x, 0, d)
		}
		product := j.add(5, turned, 0, j.plain(diagonal))
		if isFirst {
			sum = product
		} else {
			sum = j.add(3, sum, product, 0)
		}
		isFirst = false
	}
	if isFirst {
		return j.zero(x)
	}
	return sum
}

// judgedStride is the least power of two whose square isn't less than slots.
func judgedStride(slots int) int {
	for _, g := range []int{1, 2, 4, 8, 16, 32, 64} {
		if g*g >= slots {
			return g
		}
	}
	return 0
}

// giant lays giant step by giant step.
func (j *judge) giant(x int, diagonals map[int][]int) int {
	g := judgedStride(j.v.Slots)
	laid := map[int]int{}
	sums, isFirstStep := 0, true
	for step := range j.v.Slots {
		sum, isFirst := 0, true
		for d := range j.v.Slots {
			if d/g != step || diagonals[d] == nil {
				continue
			}
			turned := x
			if by := d - step*g; by != 0 {
				if laid[by] == 0 {
					laid[by] = j.add(8, x, 0, by)
				}
				turned = laid[by]
			}
			moved := make([]int, j.v.Slots)
			for s := range moved {
				moved[s] = diagonals[d][(s-step*g+j.v.Slots)%j.v.Slots]
			}
			product := j.add(5, turned, 0, j.plain(moved))
			if isFirst {
				sum = product
			} else {
				sum = j.add(3, sum, product, 0)
			}
			isFirst = false
		}
		if isFirst {
			continue
		}
		if step != 0 {
			sum = j.add(8, sum, 0, step*g)
		}
		if isFirstStep {
			sums = sum
		} else {
			sums = j.add(3, sums, sum, 0)
		}
		isFirstStep = false
	}
	if isFirstStep {
		return j.zero(x)
	}
	return sums
}

func sameLists(a, b [][]int) bool { return slices.EqualFunc(a, b, slices.Equal[[]int]) }

func sameProgram(a, b api.Vectors) bool {
	sameInput := func(a, b api.Input) bool { return a.Lo == b.Lo && a.Hi == b.Hi && slices.Equal(a.Slots, b.Slots) }
	return a.Slots == b.Slots && a.Last == b.Last && slices.Equal(a.Out, b.Out) && slices.Equal(a.Code, b.Code) &&
		sameLists(a.Plains, b.Plains) && slices.EqualFunc(a.Inputs, b.Inputs, sameInput)
}

// isAsJudged asks Lower.
func isAsJudged(t *testing.T, g api.Graph, o api.Options, slots int) (api.Vectors, api.Errno) {
	t.Helper()
	want, wantErr := judgedLower(g, o, slots)
	v, err := lower.Lower(g, o, slots)
	if err != wantErr || !sameProgram(v, want) {
		t.Errorf("%+v %v, want %+v %v: %+v %+v of %d", v, err, want, wantErr, g, o, slots)
	}
	if err == api.OK && vector.Check(v) != api.OK {
		t.Errorf("no program: %+v of %+v", v, g)
	}
	return v, err
}

// mixtures are all options that say how a graph is lowered.
func mixtures() []api.Options {
	var all []api.Options
	for i := range 8 {
		all = append(all, api.Options{Layout: i & 1, Tidy: i&2 > 0, Giant: i&4 > 0})
	}
	return all
}

// A judge that takes whatever there is would find nothing.
func TestJudge(t *testing.T) {
	for _, h := range byHand() {
		if v, err := judgedLower(h.g, h.o, h.v.Slots); err != api.OK || !sameProgram(v, h.v) {
			t.Errorf("%+v %v, want %+v: %+v", v, err, h.v, h.g)
		}
	}
	if slots := judgedSlots([]int{2, 3, 1}, 1); !slices.Equal(slots, []int{0, 1, 2, 4, 5, 6}) {
		t.Error(slots)
	}
}
