package tape_test

import (
	"slices"
	"testing"

	"arras/api"
	"arras/tape"
)

const spare = 0x5a5a5a5a5a5a5a5a

// spoil writes over a list and its spare room.
func spoil[Number int64 | uint64](list []Number) {
	list = list[:cap(list)]
	for i := range list {
		list[i] ^= spare
	}
}

func TestDrawsStayAsTheyWere(t *testing.T) {
	for _, count := range []int{0, 1, 5, 40} {
		room := append((&mixer{state: 11}).words(count), spare, spare, spare)
		was := slices.Clone(room)
		x := tape.New(room[:count])
		for _, c := range slices.Concat(goodCalls(), wrongCalls(), goodCalls()) {
			c.do(x)
		}
		if !slices.Equal(room, was) {
			t.Error("changed", count)
		}
	}
}

// A tape keeps none of the list that it was made of.
func TestDrawsAreNotKept(t *testing.T) {
	draws := (&mixer{state: 12}).words(60)
	for ahead := range 4 {
		calls := (&mixer{state: uint64(ahead)}).calls(20)
		room := append(slices.Clone(draws), spare, spare)[:len(draws)]
		x, p := tape.New(room), &paper{draws: draws}
		for i, c := range calls {
			if i == ahead {
				spoil(room)
			}
			if got, want := c.do(x), c.model(p); !got.is(want) || x.Left() != p.left() {
				t.Error(c.name, got, want)
			}
		}
	}
}

// The room behind the draws is none of the tape.
func TestSpareRoomIsNotDrawn(t *testing.T) {
	room := make([]uint64, 10)
	x := tape.New(room[:2])
	if x.Left() != 2 {
		t.Error(x.Left())
	}
	if list, err := x.Ternaries(3); len(list) != 0 || err != api.ErrTape {
		t.Error(list, err)
	}
}

func TestPrimesStayAsTheyWere(t *testing.T) {
	x := tape.New((&mixer{state: 13}).words(500))
	for _, primes := range [][]uint64{{17}, {17, 0, 97}, rowsOf(longest), rowsOf(longest + 1), {}} {
		room := append(slices.Clone(primes), spare, spare, spare)
		was := slices.Clone(room)
		for _, n := range []int{0, 1, 3} {
			element, _ := x.Uniform(n, room[:len(primes)])
			for _, list := range element.R {
				spoil(list)
			}
			if !slices.Equal(room, was) {
				t.Error("changed", primes, n)
			}
		}
	}
}

func TestPrimesAreNotKept(t *testing.T) {
	draws := (&mixer{state: 14}).words(100)
	primes := []uint64{17, 97}
	x, p := tape.New(draws), &paper{draws: draws}
	first, err := x.Uniform(3, primes)
	spoil(primes)
	want, _ := p.uniform(3, []uint64{17, 97})
	if got := (answer{element: first, err: err}); !got.is(answer{element: want}) {
		t.Error(got, want)
	}
	second, err := x.Uniform(3, []uint64{193})
	want, _ = p.uniform(3, []uint64{193})
	if got := (answer{element: second, err: err}); !got.is(answer{element: want}) {
		t.Error(got, want)
	}
}

// What is answered may be written over, its spare room too: neither the tape nor another list is changed.
func TestWhatIsAnsweredIsNew(t *testing.T) {
	draws := (&mixer{state: 15}).words(300)
	x, p := tape.New(draws), &paper{draws: draws}
	var kept, wanted []answer
	for range 3 {
		for _, c := range []call{ternariesCall(4), errorsCall(4, 3), uniformCall(4, []uint64{17, 97, 17})} {
			spoilt := c.do(x)
			c.model(p)
			spoil(spoilt.list)
			for i, list := range spoilt.element.R {
				spoil(list)
				spoilt.element.R[i] = nil
			}
			kept, wanted = append(kept, c.do(x)), append(wanted, c.model(p))
		}
	}
	for i := range kept {
		if !kept[i].is(wanted[i]) {
			t.Error(i, kept[i], wanted[i])
		}
	}
}

func TestListsOfAnElementStandAlone(t *testing.T) {
	x := tape.New((&mixer{state: 16}).words(100))
	element, err := x.Uniform(4, []uint64{17, 17, 97})
	if err != api.OK {
		t.Fatal(err)
	}
	for i := range element.R {
		var was [][]uint64
		for _, list := range element.R {
			was = append(was, slices.Clone(list[:cap(list)]))
		}
		spoil(element.R[i])
		for j, list := range element.R {
			if i != j && !slices.Equal(list[:cap(list)], was[j]) {
				t.Error(i, j)
			}
		}
	}
}

func TestTapesStandAlone(t *testing.T) {
	draws := (&mixer{state: 17}).words(90)
	var tapes []*tape.Tape
	var papers []*paper
	for i := range 3 {
		tapes, papers = append(tapes, tape.New(draws[i:])), append(papers, &paper{draws: draws[i:]})
	}
	for _, c := range (&mixer{state: 18}).calls(30) {
		for i, x := range tapes {
			if got, want := c.do(x), c.model(papers[i]); !got.is(want) || x.Left() != papers[i].left() {
				t.Error(i, c.name, got, want)
			}
		}
	}
}
