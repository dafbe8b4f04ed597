package vector_test

import (
	"math"
	"slices"
	"testing"

	"arras/api"
	"arras/vector"
)

// mixer tells words that look like chance, the same ones each time.
type mixer struct{ state uint64 }

func (x *mixer) next() uint64 {
	x.state += 0x9e3779b97f4a7c15
	z := x.state
	z = (z ^ z>>30) * 0xbf58476d1ce4e5b9
	z = (z ^ z>>27) * 0x94d049bb133111eb
	return z ^ z>>31
}

// below is a number below an end.
func (x *mixer) below(end int) int { return int(x.next() % uint64(end)) }

// one is one of a row.
func one[Thing any](x *mixer, things ...Thing) Thing { return things[x.below(len(things))] }

// wild is a number of any size.
func (x *mixer) wild() int {
	return one(x, 0, 1, 2, 3, 4, -1, -2, 8, 2048, 2049, 4096, math.MaxInt, math.MinInt, 1<<32, 1<<32+1, int(x.next()))
}

// values are numbers of any size.
func (x *mixer) values(count int) []int {
	row := make([]int, count)
	for i := range row {
		row[i] = one(x, x.below(9)-4, x.below(9)-4, x.below(2*api.MaxValue)-api.MaxValue, int(x.next()), x.wild())
	}
	return row
}

// places are so many unlike slots, in any order.
func (x *mixer) places(count, slots int) []int {
	row := make([]int, slots)
	for i := range row {
		other := x.below(i + 1)
		row[i], row[other] = row[other], i
	}
	return row[:count]
}

// modulus is one that may be.
func (x *mixer) modulus() uint64 {
	return one(x, 2, 3, 4, 17, 97, 12289, api.MaxT, api.MaxT-1, api.MaxT-35, 2+uint64(x.below(100)), 2+uint64(x.below(api.MaxT-1)))
}

// program is one that may be, of so many instructions.
func (x *mixer) program(count int) api.Vectors {
	v := api.Vectors{Slots: one(x, 4, 4, 8, 16, 32)}
	for range 1 + x.below(3) {
		places := x.places(x.below(v.Slots+1), v.Slots)
		v.Inputs = append(v.Inputs, api.Input{Lo: x.wild(), Hi: x.wild(), Slots: places})
	}
	for range 1 + x.below(4) {
		v.Plains = append(v.Plains, x.values(one(x, v.Slots, x.below(v.Slots+1))))
	}
	for i := range count {
		v.Code = append(v.Code, x.instr(v, i))
		v.Code[i].To = i
	}
	v.Last, v.Out = x.below(count), x.places(x.below(v.Slots+1), v.Slots)
	return v
}

// instr is one that may stand behind so many others.
func (x *mixer) instr(v api.Vectors, count int) api.Instr {
	in, plain := input(x.below(len(v.Inputs))), x.below(len(v.Plains))
	if count == 0 {
		return one(x, in, constant(plain))
	}
	a, b := x.below(count), one(x, x.below(count), count-1)
	return one(x, in, constant(plain), add(a, b), mul(b, a), addPlain(b, plain), mulPlain(b, plain), turn(b, 1+x.below(v.Slots-1)))
}

// rows are such as a program asks for.
func (x *mixer) rows(v api.Vectors) [][]int {
	var rows [][]int
	for _, in := range v.Inputs {
		rows = append(rows, x.values(len(in.Slots)))
	}
	return rows
}

func TestDrawnPrograms(t *testing.T) {
	x, kinds := &mixer{state: 1}, map[int]int{}
	for i := range 4000 {
		v := x.program(1 + i%40)
		if isAsJudged(t, v) != api.OK || runsAsJudged(t, v, x.rows(v), x.modulus()) != api.OK {
			t.Fatal("drawn programs may be", v)
		}
		for _, n := range v.Code {
			kinds[n.Op]++
		}
	}
	for _, kind := range list(1, 2, 3, 4, 5, 6, 8) {
		if kinds[kind] < 5000 {
			t.Error("too few of a kind", kinds)
		}
	}
}

// All values are centered.
func TestValuesAreCentered(t *testing.T) {
	x, ends := &mixer{state: 2}, 0
	for i := range 1000 {
		v, m := x.program(1+i%20), x.modulus()
		values, err := vector.Run(v, x.rows(v), m)
		if err != api.OK || len(values) != len(v.Code) {
			t.Fatal(err)
		}
		for _, row := range values {
			if len(row) != v.Slots || slices.Min(row) < -int((m-1)/2) || slices.Max(row) > int(m/2) {
				t.Error("not centered", row, m)
			}
			if m < 20 && slices.Min(row) == -int((m-1)/2) && slices.Max(row) == int(m/2) {
				ends++
			}
		}
	}
	if ends < 100 {
		t.Error("too few come to both ends", ends)
	}
}

// Values are the same modulo t whether inputs are given as they are or centered, or t more or less.
func TestInputsModulo(t *testing.T) {
	x, unlike := &mixer{state: 3}, 0
	for i := range 2000 {
		v, m := x.program(1+i%30), x.modulus()
		rows := x.rows(v)
		if i%2 == 0 {
			rows = x.small(v)
		}
		want, err := vector.Run(v, rows, m)
		byCentered, byLifted, moved := x.like(rows, int(m))
		got, errCentered := vector.Run(v, byCentered, m)
		more, errLifted := vector.Run(v, byLifted, m)
		most, errMoved := vector.Run(v, moved, m)
		if err != api.OK || errCentered != api.OK || errLifted != api.OK || errMoved != api.OK {
			t.Fatal(err, errCentered, errLifted, errMoved)
		}
		if !sameLists(got, want) || !sameLists(more, want) || i%2 == 0 && !sameLists(most, want) {
			t.Errorf("%v, %v, %v, want %v: %+v of %v modulo %d", got, more, most, want, v, rows, m)
		}
		if !sameLists(rows, byCentered) && !sameLists(rows, byLifted) {
			unlike++
		}
	}
	if unlike < 1000 {
		t.Error("too few tries", unlike)
	}
}

// small are rows of which a few t more or less are no number that is beyond its type.
func (x *mixer) small(v api.Vectors) [][]int {
	rows := x.rows(v)
	for _, row := range rows {
		for i := range row {
			row[i] %= 1 << 40
		}
	}
	return rows
}

// like are rows of the same numbers modulo t: centered, from 0 to t - 1, and some t more or less.
func (x *mixer) like(rows [][]int, t int) (byCentered, byLifted, moved [][]int) {
	for _, row := range rows {
		c, l, m := slices.Clone(row), slices.Clone(row), slices.Clone(row)
		for i, v := range row {
			c[i], l[i], m[i] = centered(v, t), modulo(v, t), v+(x.below(1<<20)-1<<19)*t
		}
		byCentered, byLifted, moved = append(byCentered, c), append(byLifted, l), append(moved, m)
	}
	return byCentered, byLifted, moved
}

// spoil puts something of a program otherwise.
func (x *mixer) spoil(v *api.Vectors) {
	number := x.spot(v)
	switch x.below(3) {
	case 0:
		*number++
	case 1:
		*number--
	default:
		*number = x.wild()
	}
	switch x.below(12) {
	case 0:
		v.Code = v.Code[:x.below(len(v.Code)+1)]
	case 1:
		v.Plains[x.below(len(v.Plains))] = make([]int, one(x, 3, 4, 5, 8, 9, 16, 17, 2048, 2049))
	case 2:
		v.Plains = v.Plains[:x.below(len(v.Plains))+1]
	case 3:
		v.Inputs = v.Inputs[:x.below(len(v.Inputs))+1]
	case 4:
		v.Out = append(v.Out, x.wild())
	case 5:
		in := &v.Inputs[x.below(len(v.Inputs))]
		in.Slots = append(in.Slots, x.below(v.Slots&31+1))
	}
}

// spot is one of a program's numbers.
func (x *mixer) spot(v *api.Vectors) *int {
	all := []*int{&v.Slots, &v.Last}
	for i := range v.Code {
		n := &v.Code[i]
		all = append(all, &n.Op, &n.To, &n.A, &n.B, &n.K)
	}
	lists := [][]int{v.Out}
	for _, in := range v.Inputs {
		lists = append(lists, in.Slots)
	}
	for _, row := range lists {
		for i := range row {
			all = append(all, &row[i])
		}
	}
	return one(x, all...)
}

func TestSpoiltPrograms(t *testing.T) {
	x, told := &mixer{state: 4}, map[api.Errno]int{}
	for i := range 20000 {
		v := x.program(1 + i%6)
		for range 1 + x.below(2) {
			x.spoil(&v)
		}
		isAsJudged(t, v)
		rows := x.rows(v)
		if len(rows) > 0 && x.below(4) == 0 {
			rows[0] = x.values(x.below(5))
		}
		told[runsAsJudged(t, v, rows[:len(rows)-x.below(len(rows)+1)/3], one(x, x.modulus(), x.modulus(), uint64(x.wild())))]++
	}
	if told[api.OK] < 500 || told[api.ErrForm] < 10000 || told[api.ErrArg] < 100 || told[api.ErrInput] < 100 {
		t.Error("too few tries", told)
	}
}

// The calls answer at all arguments.
func TestWildArguments(t *testing.T) {
	x, told := &mixer{state: 5}, map[api.Errno]int{}
	for range 20000 {
		few := func() int { return one(x, 0, 0, 1, x.wild()) }
		v := api.Vectors{Slots: one(x, 4, 4, x.wild()), Last: few(), Out: x.wildRow()}
		for range x.below(3) {
			v.Inputs = append(v.Inputs, api.Input{Lo: few(), Hi: few(), Slots: x.wildRow()})
			v.Plains = append(v.Plains, x.wildRow())
		}
		for i := range x.below(4) {
			wild := api.Instr{Op: x.below(11), A: few(), B: few(), K: few()}
			v.Code = append(v.Code, one(x, wild, input(0), turn(0, 1), add(0, 0)))
			v.Code[i].To = one(x, i, i, i, i, few())
		}
		var rows [][]int
		for range one(x, len(v.Inputs), x.below(4)) {
			rows = append(rows, x.wildRow())
		}
		isAsJudged(t, v)
		told[runsAsJudged(t, v, rows, one(x, 97, 97, uint64(x.wild()), x.next()))]++
	}
	if told[api.OK] < 20 || told[api.ErrForm] < 10000 || told[api.ErrArg] < 20 || told[api.ErrInput] < 20 {
		t.Error("too few tries", told)
	}
}

func (x *mixer) wildRow() []int {
	var row []int
	for range one(x, 0, 0, 1, 2, x.below(6)) {
		row = append(row, one(x, 0, 1, 2, x.wild()))
	}
	return row
}
