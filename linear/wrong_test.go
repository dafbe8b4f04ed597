package linear_test

import (
	"math"
	"slices"
	"strconv"
	"testing"

	"arras/api"
	"arras/graph"
	"arras/linear"
)

// noShapes are none, some of them modulo 2^64 or 2^32 alone.
func noShapes() [][]int {
	return [][]int{
		nil, {}, {1, 1, 1, 1}, {2, 1, 2, 1, 2}, make([]int, 3), make([]int, 1000), {65}, {64, 2}, {2, 64}, {13, 5}, {8, 9}, {4, 4, 5}, {1, 1, 65}, {65, 1, 1}, {3, 3, 8},
		{0}, {0, 1}, {1, 0}, {0, 2, 2}, {2, 0, 2}, {2, 2, 0}, {-1}, {-1, -1}, {-2, 3}, {1, -1, -1}, {-1, 1, -1}, {-4, -4, 1}, {1, 1, -1}, {math.MinInt}, {math.MaxInt}, {math.MinInt, 2}, {1, math.MaxInt, 1},
		{1 << 32}, {1<<32 + 1}, {1 << 33, 1 << 33}, {1 << 32, 1 << 32, 1}, {1 << 62, 4}, {1 << 62, 4, 2}, {math.MaxInt, math.MaxInt, 1}, {1 << 16, 1 << 16}, {1<<32 + 1, 1<<32 + 1, 2},
	}
}

// farNumbers are far from all that may be.
func farNumbers() []int {
	return list(-1, -2, math.MinInt, math.MinInt+1, math.MaxInt, math.MaxInt-1, 1<<32, -1<<32, 1<<32+1, 1<<31, 1<<62)
}

func TestNoShapes(t *testing.T) {
	for _, shape := range noShapes() {
		for _, layout := range append(farNumbers(), 0, 1, 2, 3) {
			for _, slots := range append(farNumbers(), 0, 1, 8, 64, 128, api.MaxN) {
				if got, err := linear.Slots(shape, layout, slots); err != api.ErrShape || len(got) > 0 {
					t.Error(shape, layout, slots, got, err)
				}
			}
		}
	}
}

// A layout that is none is ahead of slots that are too few.
func TestNoLayouts(t *testing.T) {
	for _, shape := range [][]int{{1}, {64}, {2, 3}, {1, 1, 1}, {2, 3, 1}, {4, 4, 4}} {
		for _, layout := range append(farNumbers(), 2, 3, 4, 64, 1<<32+2) {
			for _, slots := range append(farNumbers(), 0, 1, 5, 64, 128, api.MaxN) {
				if got, err := linear.Slots(shape, layout, slots); err != api.ErrShape || len(got) > 0 {
					t.Error(shape, layout, slots, got, err)
				}
			}
		}
	}
}

func TestTooFewSlots(t *testing.T) {
	for _, shape := range [][]int{{1}, {64}, {2, 3}, {1, 1, 1}, {2, 3, 1}, {4, 4, 4}, {2, 1, 5}} {
		for layout := range 2 {
			enough, _ := judgedSlots(shape, layout, math.MaxInt)
			for _, slots := range []int{enough[len(enough)-1], 0, -1, -2, -64, -1 << 32, math.MinInt, math.MinInt + 1} {
				if got, err := linear.Slots(shape, layout, slots); err != api.ErrFit || len(got) > 0 {
					t.Error(shape, layout, slots, got, err)
				}
			}
		}
	}
}

// refusesRows holds Rows against its error.
func refusesRows(t *testing.T, what string, n api.Node, in []int) {
	t.Helper()
	if rows, biases, err := linear.Rows(n, in); err != api.ErrForm || len(rows) > 0 || len(biases) > 0 {
		t.Errorf("%s: %v %v %v: %+v behind %v", what, rows, biases, err, n, in)
	}
}

// Nodes of other kinds have no rows, though they may be behind an input, and what is no kind has none either.
func TestOtherKinds(t *testing.T) {
	in := list(1, 2, 2)
	others := []api.Node{
		{Kind: api.KindInput, Shape: in, Lo: -1, Hi: 1},
		{Kind: api.KindConst, Shape: in, Data: list(1, 2, 3, 4)},
		{Kind: api.KindAdd},
		{Kind: api.KindScale, Data: list(3)},
		{Kind: api.KindPower, Data: list(1, 1, 0)},
	}
	for _, n := range others {
		if _, err := graph.Check(api.Graph{Nodes: []api.Node{{Kind: api.KindInput, Shape: in}, n}, Out: 1}); err != api.OK {
			t.Error("none that may be", n, err)
		}
		for _, shape := range append(noShapes(), in) {
			refusesRows(t, "another kind", n, shape)
		}
	}
	for _, n := range rightNodes() {
		for _, kind := range append(farNumbers(), 0, api.KindInput, api.KindConst, api.KindAdd, api.KindScale, api.KindPower, 10, 11, 259, 260, 261, 265) {
			n.Kind = kind
			refusesRows(t, "kind "+strconv.Itoa(kind), n, in)
		}
	}
	refusesRows(t, "nothing", api.Node{}, in)
	refusesRows(t, "nothing of nothing", api.Node{}, nil)
}

// rightNodes may be behind the shape 1 2 2, one of each kind.
func rightNodes() []api.Node {
	return []api.Node{
		dense(list(1, 2), list(1, 2, 3, 4, 5, 6, 7, 8)),
		conv(list(2, 1, 1, 2), list(5, 6), list(1, -1, 2, -2)),
		pool(2),
		flat(4),
	}
}

// fault makes a node one that may not be.
type fault struct {
	what string
	do   func(n *api.Node)
}

// fields tells which ones a kind has beside A; Data and Bias go together.
type fields struct{ shape, size, data bool }

func fieldsOf(kind int) fields {
	switch kind {
	case api.KindDense:
		return fields{data: true}
	case api.KindConv:
		return fields{data: true, shape: true}
	case api.KindPool:
		return fields{size: true}
	}
	return fields{shape: true}
}

// notHad are faults of fields that the kind doesn't have.
func (has fields) notHad() []fault {
	var faults []fault
	for _, v := range append(farNumbers(), 1, 2) {
		ending := " " + strconv.Itoa(v)
		// There is no node but the one ahead: another A may not be, whatever the kind.
		faults = append(faults, fault{"A" + ending, func(n *api.Node) { n.A = v }}, fault{"B" + ending, func(n *api.Node) { n.B = v }},
			fault{"Lo" + ending, func(n *api.Node) { n.Lo = v }}, fault{"Hi" + ending, func(n *api.Node) { n.Hi = v }},
			fault{"Lo and Hi" + ending, func(n *api.Node) { n.Lo, n.Hi = v, v }})
		if !has.size {
			faults = append(faults, fault{"Size" + ending, func(n *api.Node) { n.Size = v }})
		}
	}
	for _, row := range [][]int{{0}, {1}, {1, 2, 2}, {1, 1, 1, 1}, make([]int, 65)} {
		ending := " of " + strconv.Itoa(len(row))
		if !has.shape {
			faults = append(faults, fault{"Shape" + ending, func(n *api.Node) { n.Shape = row }})
		}
		if !has.data {
			faults = append(faults, fault{"Data" + ending, func(n *api.Node) { n.Data = row }}, fault{"Bias" + ending, func(n *api.Node) { n.Bias = row }})
		}
	}
	return faults
}

// counts are faults of Data and Bias, of which there are so many.
func counts(data, bias int) []fault {
	var faults []fault
	for _, count := range []int{0, 1, data - 1, data + 1, data + 2, 2 * data, 64, 4096} {
		if count != data {
			faults = append(faults, fault{"Data of " + strconv.Itoa(count), func(n *api.Node) { n.Data = make([]int, count) }})
		}
	}
	for _, count := range []int{0, 1, bias + 1, 2 * bias, 64, 65} {
		faults = append(faults, fault{"Bias of " + strconv.Itoa(count), func(n *api.Node) { n.Bias = make([]int, count) }})
	}
	return faults
}

// with is a list in which a number was put at its beginning, or at its end.
func with(row []int, v int, atEnd bool) []int {
	row = slices.Clone(row)
	if len(row) > 0 && atEnd {
		row[len(row)-1] = v
	} else if len(row) > 0 {
		row[0] = v
	}
	return row
}

// beyond are faults of numbers.
func beyond() []fault {
	var faults []fault
	for _, v := range append(farNumbers()[2:], api.MaxValue+1, -api.MaxValue-1, 2*api.MaxValue) {
		for _, atEnd := range []bool{false, true} {
			faults = append(faults,
				fault{"number of Data " + strconv.Itoa(v), func(n *api.Node) { n.Data = with(n.Data, v, atEnd) }},
				fault{"number of Bias " + strconv.Itoa(v), func(n *api.Node) { n.Bias = with(n.Bias, v, atEnd) }})
		}
	}
	return faults
}

// kernel is a Conv's Shape, with as many weights and biases as it tells.
func kernel(shape ...int) fault {
	return fault{"kernel", func(n *api.Node) { *n = conv(shape, make([]int, shape[0]), make([]int, entriesOf(shape))) }}
}

// faultsOf are all of a kind, of the right node behind 1 2 2.
func faultsOf(kind int) []fault {
	faults := fieldsOf(kind).notHad()
	switch kind {
	case api.KindDense:
		faults = slices.Concat(faults, counts(8, 2), beyond())
		for _, biases := range list(65, 66, 128) {
			faults = append(faults, fault{"too many rows", func(n *api.Node) { n.Bias, n.Data = make([]int, biases), make([]int, 4*biases) }})
		}
		faults = append(faults, fault{"no rows", func(n *api.Node) { n.Bias, n.Data = nil, nil }})
	case api.KindConv:
		faults = slices.Concat(faults, counts(4, 2), beyond(), []fault{kernel(2, 2, 1, 2), kernel(2, 1, 3, 1), kernel(2, 1, 1, 3), kernel(2, 1, 3, 3), kernel(2, 1, 64, 64), kernel(17, 1, 1, 1), kernel(64, 1, 1, 1), kernel(33, 1, 1, 2), kernel(33, 1, 2, 1), kernel(64, 1, 2, 1), kernel(65, 1, 2, 2)})
		for _, shape := range append(noShapes(), list(2, 1, 1), list(2, 1, 2), list(1, 2, 1, 1, 2), list(2, 1, 1, 2, 1), list(2, 1, -1, -2), list(-2, 1, -1, 2), list(2, -1, -1, 2), list(0, 1, 1, 2), list(2, 0, 1, 2), list(2, 1, 0, 2), list(2, 1, 1, 0), list(4, 1, 1, 1), list(1, 1, 2, 2), list(1, 4, 1, 1), list(2, 1, 1<<62, 2), list(2, 1, 1<<32, 1<<31), list(1<<32+2, 1, 1, 2)) {
			faults = append(faults, fault{"Shape", func(n *api.Node) { n.Shape = shape }})
		}
	case api.KindPool:
		for _, size := range append(farNumbers(), 0, 3, 4, 5, 6, 8, 64, 1<<32+2) {
			faults = append(faults, fault{"Size " + strconv.Itoa(size), func(n *api.Node) { n.Size = size }})
		}
	case api.KindFlat:
		for _, shape := range append(noShapes(), list(1), list(3), list(5), list(8), list(2, 3), list(1, 2, 1), list(2, 2, 2), list(64)) {
			faults = append(faults, fault{"Shape", func(n *api.Node) { n.Shape = shape }})
		}
	}
	return faults
}

// Each fault by itself, and two of them: which may make a node that may be.
func TestNodesThatMayNotBe(t *testing.T) {
	in := list(1, 2, 2)
	for _, right := range rightNodes() {
		if areRowsAsJudged(t, right, in) != api.OK {
			t.Error("refused", right)
		}
		faults := faultsOf(right.Kind)
		for i, f := range faults {
			n := right
			f.do(&n)
			if mayStand(n, in) {
				t.Fatal("no fault", f.what, n)
			}
			refusesRows(t, f.what, n, in)
			faults[(i*7+3)%len(faults)].do(&n)
			areRowsAsJudged(t, n, in)
		}
	}
}

// Shapes in that don't go with the node, or are none.
func TestShapesInThatMayNotBe(t *testing.T) {
	for _, right := range rightNodes() {
		for _, in := range noShapes() {
			refusesRows(t, "no shape", right, in)
		}
		told := map[api.Errno]int{}
		for _, in := range shapes() {
			told[areRowsAsJudged(t, right, in)]++
		}
		if told[api.OK] < 2 || told[api.ErrForm] < 500 {
			t.Error("too few tries", right, told)
		}
	}
	// No shape, though the numbers would go with it.
	refusesRows(t, "no entries", dense(list(1), nil), nil)
	refusesRows(t, "no entries", dense(list(1), nil), list(0))
	refusesRows(t, "four numbers", dense(list(1), list(1, 2)), list(1, 2, 1, 1))
	refusesRows(t, "65 entries", dense(list(1), make([]int, 65)), list(65))
	refusesRows(t, "numbers below 0", dense(list(1), list(1, 2)), list(-1, -2))
	refusesRows(t, "numbers below 0", flat(2), list(-1, -2))
	refusesRows(t, "itself", flat(65), list(65))
	refusesRows(t, "itself", flat(1, 1, 1, 1), list(1, 1, 1, 1))
	refusesRows(t, "numbers below 0", conv(list(1, 1, 1, 1), list(0), list(1)), list(1, -1, -2))
	refusesRows(t, "65 entries", pool(1), list(1, 5, 13))
	refusesRows(t, "65 entries", pool(5), list(13, 5, 5))
	refusesRows(t, "numbers below 0", pool(1), list(1, -2, -2))
	refusesRows(t, "four numbers", pool(1), list(1, 2, 2, 1))
	refusesRows(t, "no lines", pool(2), list(1, 0, 2))
}

// refusesDiagonals holds Diagonals against its error.
func refusesDiagonals(t *testing.T, what string, rows [][]int, from, to []int, slots int) {
	t.Helper()
	if got, err := linear.Diagonals(rows, from, to, slots); err != api.ErrForm || len(got) > 0 {
		t.Error(what, got, err)
	}
}

func TestNoSlots(t *testing.T) {
	for _, slots := range append(farNumbers(), 0, -64, -api.MaxN, api.MaxN+1, api.MaxN+2, 2*api.MaxN, 1<<32+4) {
		refusesDiagonals(t, "slots "+strconv.Itoa(slots), [][]int{{5, 7}}, list(0, 1), list(0), slots)
		refusesDiagonals(t, "nothing", nil, nil, nil, slots)
		refusesDiagonals(t, "no numbers", nil, list(0), nil, slots)
		refusesDiagonals(t, "no weights", [][]int{{}}, nil, list(0), slots)
	}
}

func TestWrongCountsOfRows(t *testing.T) {
	from, row := list(0, 1), list(5, 7)
	for numbers := range 4 {
		for count := range 8 {
			rows := slices.Repeat([][]int{row}, count)
			want := api.ErrForm
			if count == numbers {
				want = api.OK
			}
			if areDiagonalsAsJudged(t, rows, from, list(3, 1, 2)[:numbers], 4) != want {
				t.Error(numbers, count)
			}
		}
	}
	refusesDiagonals(t, "no rows", nil, from, list(0), 4)
	refusesDiagonals(t, "empty rows", [][]int{}, from, list(0), 4)
	refusesDiagonals(t, "no numbers", [][]int{row}, from, nil, 4)
	refusesDiagonals(t, "no numbers, empty", [][]int{row}, from, list(), 4)
	refusesDiagonals(t, "an empty row more", [][]int{row, {}}, from, list(0), 4)
	refusesDiagonals(t, "a nil row more", [][]int{row, nil}, from, list(0), 4)
	refusesDiagonals(t, "rows and no places", [][]int{nil, nil}, nil, nil, 4)
}

// Any row may be too short or too long, whatever the others are.
func TestWrongCountsOfWeights(t *testing.T) {
	from, to := list(2, 0, 3), list(1, 3, 0)
	for place := range to {
		for count := range 9 {
			rows := [][]int{{1, 2, 3}, {4, 5, 6}, {7, 8, 9}}
			rows[place] = make([]int, count)
			want := api.ErrForm
			if count == len(from) {
				want = api.OK
			}
			if areDiagonalsAsJudged(t, rows, from, to, 4) != want {
				t.Error(place, count)
			}
		}
		rows := [][]int{{1, 2, 3}, {4, 5, 6}, {7, 8, 9}}
		rows[place] = nil
		refusesDiagonals(t, "a nil row", rows, from, to, 4)
	}
	refusesDiagonals(t, "as many together", [][]int{{1, 2}, {3, 4, 5, 6}, {7, 8, 9}}, from, to, 4)
	refusesDiagonals(t, "weights from nowhere", [][]int{{1}}, nil, list(0), 4)
	refusesDiagonals(t, "turned round", [][]int{{1}, {2}, {3}}, from, list(0), 4)
	refusesDiagonals(t, "no weights", [][]int{{}, {}, {}}, from, to, 4)
}

// Places that aren't slots, at each place of from and of to.
func TestWrongPlaces(t *testing.T) {
	rows := [][]int{{1, 2, 3}, {4, 5, 6}, {7, 8, 9}}
	right := list(2, 0, 3)
	for at := range right {
		for _, v := range append(farNumbers(), 4, 5, 8, 64, api.MaxN) {
			wrong := slices.Clone(right)
			wrong[at] = v
			refusesDiagonals(t, "from "+strconv.Itoa(v), rows, wrong, right, 4)
			refusesDiagonals(t, "to "+strconv.Itoa(v), rows, right, wrong, 4)
			refusesDiagonals(t, "both "+strconv.Itoa(v), rows, wrong, wrong, 4)
			refusesDiagonals(t, "from alone "+strconv.Itoa(v), nil, wrong, nil, 4)
			refusesDiagonals(t, "to alone "+strconv.Itoa(v), [][]int{{}, {}, {}}, nil, wrong, 4)
			refusesDiagonals(t, "of nothing but 0 "+strconv.Itoa(v), [][]int{{0, 0, 0}, {0, 0, 0}, {0, 0, 0}}, right, wrong, 4)
		}
		for slots := 1; slots <= 6; slots++ {
			want := api.OK
			if slots < 4 {
				want = api.ErrForm
			}
			if areDiagonalsAsJudged(t, rows, right, right, slots) != want {
				t.Error(slots)
			}
		}
	}
	refusesDiagonals(t, "far from", [][]int{{1}}, list(api.MaxN), list(0), api.MaxN)
	refusesDiagonals(t, "far to", [][]int{{1}}, list(0), list(api.MaxN), api.MaxN)
	if areDiagonalsAsJudged(t, [][]int{{1}}, list(api.MaxN-1), list(0), api.MaxN) != api.OK {
		t.Error("the last slot")
	}
}

// The same place twice in from, or twice in to, may not be; once in each it may.
func TestPlacesTwice(t *testing.T) {
	rows := [][]int{{1, 2, 3}, {4, 5, 6}, {7, 8, 9}}
	right := list(2, 0, 3)
	for at := range right {
		for other := range right {
			if at == other {
				continue
			}
			wrong := slices.Clone(right)
			wrong[at] = wrong[other]
			refusesDiagonals(t, "from", rows, wrong, right, 4)
			refusesDiagonals(t, "to", rows, right, wrong, 4)
			refusesDiagonals(t, "both", rows, wrong, wrong, 4)
			refusesDiagonals(t, "from alone", nil, wrong, nil, 4)
			refusesDiagonals(t, "to alone", [][]int{{}, {}, {}}, nil, wrong, 4)
			refusesDiagonals(t, "alike rows", [][]int{rows[0], rows[0], rows[0]}, right, wrong, 4)
		}
	}
	for _, to := range [][]int{right, list(0, 2, 3), list(3, 2, 0), list(1, 2, 3)} {
		if areDiagonalsAsJudged(t, rows, right, to, 4) != api.OK {
			t.Error("refused", to)
		}
	}
	long := slices.Repeat([]int{0}, 1<<20)
	refusesDiagonals(t, "long", nil, long, nil, 4)
	refusesDiagonals(t, "long", make([][]int, len(long)), nil, long, 4)
}

// Every call answers at all arguments.
func TestWildArguments(t *testing.T) {
	x, told := &mixer{state: 7}, map[api.Errno]int{}
	for range 40000 {
		few := func() int { return one(x, 0, 0, 0, 1, x.wild()) }
		row := func() []int {
			var row []int
			for range x.below(5) {
				row = append(row, one(x, 1, 1, 2, x.wild()))
			}
			return row
		}
		told[areSlotsAsJudged(t, row(), few(), one(x, 8, x.wild()))]++
		n := api.Node{Kind: x.below(11), A: one(x, 0, few()), B: one(x, 0, few()), Shape: row(), Lo: one(x, 0, few()), Hi: one(x, 0, few()), Size: few(), Data: row(), Bias: row()}
		areRowsAsJudged(t, n, row())
		var rows [][]int
		for range x.below(4) {
			rows = append(rows, row())
		}
		areDiagonalsAsJudged(t, rows, row(), row(), one(x, 4, x.below(70), x.wild()))
	}
	for _, err := range []api.Errno{api.OK, api.ErrShape, api.ErrFit} {
		if told[err] < 1000 {
			t.Error("too few tries", told)
		}
	}
}

// spoiltPlaces are places of which one was put otherwise.
func (x *mixer) spoiltPlaces(places []int, slots int) []int {
	places = slices.Clone(places)
	if len(places) == 0 {
		return places
	}
	at := x.below(len(places))
	switch x.below(6) {
	case 0:
		places[at] = places[x.below(len(places))]
	case 1:
		places[at] = one(x, slots, slots+1, -1)
	case 2:
		places[at] = x.below(slots)
	case 3:
		return slices.Delete(places, at, at+1)
	case 4:
		return append(places, x.below(slots))
	default:
		places[at] = x.wild()
	}
	return places
}

// Rows and places of which something was put otherwise.
func TestSpoiltDiagonals(t *testing.T) {
	x, told := &mixer{state: 8}, map[api.Errno]int{}
	for range 20000 {
		slots := one(x, 1+x.below(8), 1+x.below(40))
		rows, from, to := x.drawnRows(slots)
		rows = slices.Clone(rows)
		switch x.below(6) {
		case 0:
			from = x.spoiltPlaces(from, slots)
		case 1:
			to = x.spoiltPlaces(to, slots)
		case 2:
			rows = append(rows, make([]int, len(from)))
		case 3:
			if len(rows) > 0 {
				rows[x.below(len(rows))] = make([]int, one(x, 0, len(from)+1, x.below(len(from)+1)))
			}
		case 4:
			slots = max(slots+one(x, -1, 1), 0)
		}
		told[areDiagonalsAsJudged(t, rows, from, to, slots)]++
	}
	if told[api.OK] < 5000 || told[api.ErrForm] < 5000 || len(told) != 2 {
		t.Error("too few tries", told)
	}
}
