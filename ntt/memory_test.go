package ntt_test

import (
	"slices"
	"testing"

	"arras/api"
	"arras/ntt"
)

// call is one of a table's calls.
type call struct {
	name string
	do   func(t *ntt.Table, a, b []uint64) ([]uint64, api.Errno)
}

func calls() []call {
	return []call{
		{"Values", func(t *ntt.Table, a, b []uint64) ([]uint64, api.Errno) { return t.Values(a) }},
		{"Back", func(t *ntt.Table, a, b []uint64) ([]uint64, api.Errno) { return t.Back(a) }},
		{"Mul", (*ntt.Table).Mul},
	}
}

const spare = 0x5a5a5a5a5a5a5a5a

// roomy is a list with spare room behind it, and the whole of its memory.
func roomy(a []uint64) ([]uint64, []uint64) {
	whole := append(slices.Clone(a), slices.Repeat([]uint64{spare}, len(a)+3)...)
	return whole[:len(a)], whole
}

// spoil writes over a list and its spare room.
func spoil(a []uint64) {
	a = a[:cap(a)]
	for i := range a {
		a[i] ^= spare
	}
}

// pairs are two polynomials, and lists that are refused.
func pairs(n int, q uint64) [][2][]uint64 {
	x := &mixer{state: q}
	good := x.list(n, q)
	return [][2][]uint64{{good, x.list(n, q)}, {all(n, q-1), all(n, 0)}, {good, all(n, q)}, {all(n-1, 1), good}, {all(n+1, 1), all(n, q)}}
}

func TestWhatIsHandedInStays(t *testing.T) {
	forTables(t, func(table *ntt.Table, n int, q uint64) {
		for _, c := range calls() {
			for _, pair := range pairs(n, q) {
				a, wholeA := roomy(pair[0])
				b, wholeB := roomy(pair[1])
				wasA, wasB := slices.Clone(wholeA), slices.Clone(wholeB)
				answer, _ := c.do(table, a, b)
				if !slices.Equal(wholeA, wasA) || !slices.Equal(wholeB, wasB) {
					t.Error("changed", c.name, n, q)
				}
				spoil(answer)
				if !slices.Equal(wholeA, wasA) || !slices.Equal(wholeB, wasB) {
					t.Error("shared", c.name, n, q)
				}
			}
		}
	})
}

func TestWhatIsAnsweredIsNew(t *testing.T) {
	forTables(t, func(table *ntt.Table, n int, q uint64) {
		for _, c := range calls() {
			pair := pairs(n, q)[0]
			a, wholeA := roomy(pair[0])
			b, wholeB := roomy(pair[1])
			first, err := c.do(table, a, b)
			second, _ := c.do(table, a, b)
			was := slices.Clone(first)
			right(t, c.name, second, err, was)
			spoil(wholeA)
			spoil(wholeB)
			right(t, "kept "+c.name, first, err, was)
			spoil(first)
			right(t, "shared "+c.name, second, err, was)
			third, err := c.do(table, pair[0], pair[1])
			right(t, "the table's "+c.name, third, err, was)
		}
	})
}

func TestOnePolynomialTwice(t *testing.T) {
	forTables(t, func(table *ntt.Table, n int, q uint64) {
		a := (&mixer{}).list(n, q)
		want, err := table.Mul(slices.Clone(a), slices.Clone(a))
		once, errOnce := table.Mul(a, a)
		if err != errOnce {
			t.Error(err, errOnce)
		}
		right(t, "a times a", once, err, want)
	})
}

func TestTablesStandAlone(t *testing.T) {
	n, q, other := 8, uint64(97), uint64(113)
	a, b := (&mixer{}).list(n, q), (&mixer{state: 1}).list(n, q)
	alone, _ := tableOf(t, n, q).Mul(a, b)
	first, second, third := tableOf(t, n, q), tableOf(t, n, other), tableOf(t, 16, q)
	for range 3 {
		got, err := first.Mul(a, b)
		right(t, "one of three", got, err, alone)
		got, err = second.Mul(a, b)
		right(t, "another prime", got, err, productOf(a, b, other))
		long := append(slices.Clone(a), b...)
		got, err = third.Mul(long, long)
		right(t, "another size", got, err, productOf(long, long, q))
	}
}
