package scale_test

import (
	"math"
	"slices"
	"strconv"
	"testing"

	"arras/api"
	"arras/scale"
)

func refused(t *testing.T, what string, got api.Poly, err, want api.Errno) {
	t.Helper()
	if len(got.R) != 0 || err != want {
		t.Error(what, len(got.R), err, want)
	}
}

func refusedLower(t *testing.T, what string, s *scale.Scale, a api.Poly, want api.Errno) {
	t.Helper()
	got, err := s.Lower(a)
	refused(t, "Lower "+what, got, err, want)
}

// refusedDot asks both ways round.
func refusedDot(t *testing.T, what string, s *scale.Scale, a, b []api.Poly, want api.Errno) {
	t.Helper()
	got, err := s.Dot(a, b)
	refused(t, "Dot "+what, got, err, want)
	got, err = s.Dot(b, a)
	refused(t, "Dot, the other way, "+what, got, err, want)
}

// One condition of the parameters is broken at a time.
func TestWrongParameters(t *testing.T) {
	scaleOf(t, example())
	for _, p := range []api.Params{
		{},
		{N: 4, T: 17, Q: []uint64{97, 193}, Width: 2},
		{N: 0, T: 17, Q: []uint64{97, 193}, Width: 2},
		{N: -8, T: 17, Q: []uint64{97, 193}, Width: 2},
		{N: 12, T: 97, Q: []uint64{193}, Width: 2},
		{N: 512, T: 12289, Q: []uint64{13313}, Width: 2},
		{N: 8192, T: 65537, Q: []uint64{114689}, Width: 2},
		{N: math.MinInt, T: 17, Q: []uint64{97, 193}, Width: 2},
		{N: math.MaxInt, T: 17, Q: []uint64{97, 193}, Width: 2},
		{N: 8, T: 0, Q: []uint64{97, 193}, Width: 2},
		{N: 8, T: 33, Q: []uint64{97, 193}, Width: 2},
		{N: 8, T: 41, Q: []uint64{97, 193}, Width: 2},
		{N: 8, T: 193, Q: []uint64{97, 193}, Width: 2},
		{N: 8, T: primesBelow(8, api.MaxT+1000, 1)[0], Q: []uint64{97, 193}, Width: 2},
		{N: 8, T: 17, Width: 2},
		{N: 8, T: 17, Q: []uint64{}, Width: 2},
		{N: 8, T: 17, Q: []uint64{0}, Width: 2},
		{N: 8, T: 17, Q: []uint64{97, 97}, Width: 2},
		{N: 8, T: 17, Q: []uint64{97, 161}, Width: 2},
		{N: 8, T: 17, Q: []uint64{97, 101}, Width: 2},
		{N: 8, T: 17, Q: []uint64{primesBelow(8, primeEnd+1000, 1)[0]}, Width: 2},
		{N: 8, T: 17, Q: leastPrimes(8, api.MaxPrimes+2)[1:], Width: 2},
		{N: 8, T: 17, Q: []uint64{97, 193}},
		{N: 8, T: 17, Q: []uint64{97, 193}, Width: -1},
		{N: 8, T: 17, Q: []uint64{97, 193}, Width: api.MaxError + 1},
		{N: 1024, T: 12289, Q: primesBelow(1024, 1<<28, 1), Width: 2},
		{N: api.MaxN, T: 40961, Q: primesBelow(api.MaxN, 1<<37, 3), Width: 2},
	} {
		if s, err := scale.New(p); s != nil || err != api.ErrParam {
			t.Error(name(p), s, err)
		}
	}
}

// changed is an element with another list at a place.
func changed(a api.Poly, place int, list []uint64) api.Poly {
	lists := slices.Clone(a.R)
	lists[place] = list
	return api.Poly{R: lists}
}

// nones are no elements: of no residues, of more lists than primes, with a list too short or too long, with a residue that is its prime or greater.
func nones(p api.Params) []api.Poly {
	good := (&mixer{state: 1}).element(p.N, p.Q)
	noughts := make([]uint64, p.N)
	list := []api.Poly{{}, {R: [][]uint64{}}, {R: [][]uint64{nil}}, {R: append(slices.Clone(good.R), noughts)}, {R: slices.Repeat([][]uint64{noughts}, len(p.Q)+3)}, {R: slices.Repeat([][]uint64{noughts}, 25)}}
	for place, q := range p.Q {
		// Once at the top level, and once at the one at which the place is the last.
		for _, a := range []api.Poly{good, {R: good.R[:place+1]}} {
			for _, short := range [][]uint64{nil, {}, noughts[1:], noughts[:p.N/2], make([]uint64, p.N+1), make([]uint64, 2*p.N)} {
				list = append(list, changed(a, place, short))
			}
			for _, at := range []int{0, p.N / 2, p.N - 1} {
				for _, residue := range []uint64{q, q + 1, 1 << 63, most} {
					residues := slices.Clone(noughts)
					residues[at] = residue
					list = append(list, changed(a, place, residues))
				}
			}
		}
	}
	return list
}

// wrongs are some parameters that wrong elements are tried with.
func wrongs() []api.Params {
	return []api.Params{example(), paramsOf(8, 17, 97), paramsOf(16, 97, leastPrimes(16, 9)[1:]...), paramsOf(32, 193, primesBelow(32, primeEnd, 3)...), great()[5]}
}

func TestLowerOfNoElement(t *testing.T) {
	for _, p := range wrongs() {
		s := scaleOf(t, p)
		for i, a := range nones(p) {
			refusedLower(t, name(p)+" none "+strconv.Itoa(i), s, a, api.ErrForm)
		}
	}
}

// At level 0 there is nothing to go down to; what is no element there is ErrForm all the same.
func TestLowerOfTheLowestLevel(t *testing.T) {
	for _, p := range append(small(), great()...) {
		s := scaleOf(t, p)
		row := p.Q[:1]
		x := &mixer{}
		for _, a := range append(chunks(p.N, edges(row), row), x.element(p.N, row), lifted(p.N, row)) {
			refusedLower(t, name(p), s, a, api.ErrLevel)
			refusedLower(t, name(p), s, changed(a, 0, a.R[0][1:]), api.ErrForm)
			refusedLower(t, name(p), s, changed(a, 0, append(slices.Clone(a.R[0]), 0)), api.ErrForm)
			wrong := slices.Clone(a.R[0])
			wrong[p.N-1] = p.Q[0]
			refusedLower(t, name(p), s, changed(a, 0, wrong), api.ErrForm)
		}
	}
}

// Sums are of 1 to 4 products; of others, and of rows of unlike lengths, there are none, whatever stands in them.
func TestDotOfWrongCounts(t *testing.T) {
	for _, p := range wrongs() {
		s := scaleOf(t, p)
		good := (&mixer{}).element(p.N, p.Q)
		for a := range 10 {
			for b := range 10 {
				what := name(p) + " of " + strconv.Itoa(a) + " and " + strconv.Itoa(b)
				if a == b && a >= 1 && a <= 4 {
					continue
				}
				for _, one := range []api.Poly{good, {R: good.R[:1]}, {}} {
					refusedDot(t, what, s, slices.Repeat([]api.Poly{good}, a), slices.Repeat([]api.Poly{one}, b), api.ErrForm)
				}
			}
		}
		refusedDot(t, name(p), s, nil, nil, api.ErrForm)
		refusedDot(t, name(p), s, nil, []api.Poly{}, api.ErrForm)
		refusedDot(t, name(p), s, nil, []api.Poly{good}, api.ErrForm)
		refusedDot(t, name(p), s, make([]api.Poly, 1000), make([]api.Poly, 1000), api.ErrForm)
	}
}

// pairsOf are two rows of elements of these levels, one behind the other.
func pairsOf(p api.Params, count int) ([]api.Poly, []api.Poly) {
	all := (&mixer{state: 7}).elements(2*count, p.N, p.Q)
	return all[:count:count], all[count:]
}

// One is no element, at each place.
func TestDotOfNoElement(t *testing.T) {
	for _, p := range wrongs() {
		s := scaleOf(t, p)
		for i, wrong := range nones(p) {
			for count := 1; count <= 4; count++ {
				a, b := pairsOf(p, count)
				for place := range count {
					what := name(p) + " none " + strconv.Itoa(i) + " at " + strconv.Itoa(place) + " of " + strconv.Itoa(count)
					was := a[place]
					a[place] = wrong
					refusedDot(t, what, s, a, b, api.ErrForm)
					a[place] = was
				}
			}
		}
	}
}

// One has another level, at each place; ErrForm comes ahead of it, wherever what is no element stands.
func TestDotOfUnlikeLevels(t *testing.T) {
	for _, p := range []api.Params{example(), paramsOf(16, 97, leastPrimes(16, 9)[1:]...)} {
		s := scaleOf(t, p)
		for level := 0; level+1 < len(p.Q); level++ {
			for count := 1; count <= 4; count++ {
				for place := range 2 * count {
					a, b := pairsOf(p, count)
					all := [][]api.Poly{a, b}
					low := &all[place%2][place/2]
					low.R = low.R[:level+1]
					what := name(p) + " level " + strconv.Itoa(level) + " at " + strconv.Itoa(place)
					refusedDot(t, what, s, a, b, api.ErrLevel)
					for wrong := range 2 * count {
						if wrong == place {
							continue
						}
						spoilt := &all[wrong%2][wrong/2]
						was := *spoilt
						*spoilt = changed(was, 0, was.R[0][1:])
						refusedDot(t, what+" none at "+strconv.Itoa(wrong), s, a, b, api.ErrForm)
						*spoilt = was
					}
				}
			}
		}
	}
}

// All of one row are a level lower than all of the other one; all of both are as good as the top level's.
func TestDotOfRowsOfUnlikeLevels(t *testing.T) {
	p := paramsOf(16, 97, leastPrimes(16, 9)[1:]...)
	s := scaleOf(t, p)
	for count := 1; count <= 4; count++ {
		a, b := pairsOf(p, count)
		for i := range a {
			a[i].R = a[i].R[:len(p.Q)-1]
		}
		refusedDot(t, name(p), s, a, b, api.ErrLevel)
		for i := range b {
			b[i].R = b[i].R[:len(p.Q)-1]
		}
		rightDot(t, p, s, a, b)
	}
}

// After what was refused a scale answers as ahead of it.
func TestRefusalsChangeNothing(t *testing.T) {
	p := example()
	s := scaleOf(t, p)
	a, b := pairsOf(p, 4)
	for _, wrong := range []func(){
		func() { s.Lower(api.Poly{}) },
		func() { s.Lower(api.Poly{R: a[0].R[:1]}) },
		func() { s.Dot(nil, nil) },
		func() { s.Dot(a, b[:3]) },
		func() { s.Dot(a[:1], []api.Poly{{R: a[0].R[:1]}}) },
		func() { s.Ring().Level(api.Poly{}) },
	} {
		wrong()
		rightDot(t, p, s, a, b)
		rightLower(t, p, s, a[0])
	}
}

// A nil scale answers ErrArg ahead of all else, and a nil ring; one that New didn't make is as good as none.
func TestNoScale(t *testing.T) {
	p := example()
	good := (&mixer{}).element(p.N, p.Q)
	for what, s := range map[string]*scale.Scale{"nil": nil, "zero": {}} {
		if r := s.Ring(); r != nil {
			t.Error(what, r)
		}
		for _, a := range append(nones(p), good, api.Poly{R: good.R[:1]}) {
			refusedLower(t, what, s, a, api.ErrArg)
			refusedDot(t, what, s, []api.Poly{a}, []api.Poly{good}, api.ErrArg)
		}
		for count := range 6 {
			a := slices.Repeat([]api.Poly{good}, count)
			refusedDot(t, what, s, a, a, api.ErrArg)
			refusedDot(t, what, s, a, nil, api.ErrArg)
		}
	}
}
