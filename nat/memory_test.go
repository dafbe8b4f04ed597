package nat_test

import (
	"slices"
	"testing"

	"arras/api"
	"arras/nat"
)

// call is one of the package's calls: it answers all the lists of its answer.
type call struct {
	name string
	do   func(a, b api.Nat) []api.Nat
}

func calls() []call {
	below := func(a api.Nat) api.Int { return api.Int{Neg: true, Abs: a} }
	above := func(a api.Nat) api.Int { return api.Int{Abs: a} }
	return []call{
		{"Bits", func(a, b api.Nat) []api.Nat { return []api.Nat{{uint64(nat.Bits(a))}} }},
		{"Cmp", func(a, b api.Nat) []api.Nat { return []api.Nat{{uint64(nat.Cmp(a, b))}} }},
		{"Mod", func(a, b api.Nat) []api.Nat { return []api.Nat{{nat.Mod(a, 10)}} }},
		{"Add", func(a, b api.Nat) []api.Nat { return []api.Nat{nat.Add(a, b)} }},
		{"Mul", func(a, b api.Nat) []api.Nat { return []api.Nat{nat.Mul(a, b)} }},
		{"Sub", func(a, b api.Nat) []api.Nat { d, _ := nat.Sub(a, b); return []api.Nat{d} }},
		{"Div", func(a, b api.Nat) []api.Nat { q, r, _ := nat.Div(a, b); return []api.Nat{q, r} }},
		{"Sum", func(a, b api.Nat) []api.Nat { return []api.Nat{nat.Sum(above(a), above(b)).Abs} }},
		{"Sum across", func(a, b api.Nat) []api.Nat { return []api.Nat{nat.Sum(above(a), below(b)).Abs} }},
		{"Times", func(a, b api.Nat) []api.Nat { return []api.Nat{nat.Times(below(a), above(b)).Abs} }},
		{"Near", func(a, b api.Nat) []api.Nat { n, _ := nat.Near(above(a), b); return []api.Nat{n.Abs} }},
		{"Near below", func(a, b api.Nat) []api.Nat { n, _ := nat.Near(below(a), b); return []api.Nat{n.Abs} }},
	}
}

const spare = 0x5a5a5a5a5a5a5a5a

// roomy is a natural with spare room behind it, and the whole of its memory.
func roomy(a api.Nat) (api.Nat, api.Nat) {
	whole := append(slices.Clone(a), spare, spare, spare, spare)
	return whole[:len(a)], whole
}

// spoil writes over a list and its spare room.
func spoil(a api.Nat) {
	a = a[:cap(a)]
	for i := range a {
		a[i] ^= spare
	}
}

func cloned(lists []api.Nat) []api.Nat {
	var out []api.Nat
	for _, a := range lists {
		out = append(out, slices.Clone(a))
	}
	return out
}

func samples() []api.Nat {
	return []api.Nat{nil, {0}, {0, 0, 0}, {1}, {1, 0}, {2}, {7, 0, 0}, {1 << 63}, {most}, {0, 1}, {most, most}, {most, most, 0, 0}, {5, 6, 7}, {most, 0, most, 1 << 63}}
}

func TestWhatIsHandedInStays(t *testing.T) {
	for _, c := range calls() {
		for _, first := range samples() {
			for _, second := range samples() {
				a, wholeA := roomy(first)
				b, wholeB := roomy(second)
				wasA, wasB := slices.Clone(wholeA), slices.Clone(wholeB)
				answers := c.do(a, b)
				for _, answer := range answers {
					spoil(answer)
				}
				if !slices.Equal(wholeA, wasA) || !slices.Equal(wholeB, wasB) {
					t.Error(c.name, first, second)
				}
			}
		}
	}
}

func TestWhatIsAnsweredIsNew(t *testing.T) {
	for _, c := range calls() {
		for _, first := range samples() {
			for _, second := range samples() {
				a, wholeA := roomy(first)
				b, wholeB := roomy(second)
				answers := c.do(a, b)
				was := cloned(answers)
				spoil(wholeA)
				spoil(wholeB)
				if !slices.EqualFunc(answers, was, slices.Equal[api.Nat]) {
					t.Error("kept", c.name, first, second)
				}
				spoil(answers[0])
				if !slices.EqualFunc(answers[1:], was[1:], slices.Equal[api.Nat]) {
					t.Error("shared", c.name, first, second)
				}
			}
		}
	}
}

func TestOneNumberTwice(t *testing.T) {
	for _, c := range calls() {
		for _, sample := range samples() {
			a, whole := roomy(sample)
			was := slices.Clone(whole)
			once := c.do(a, a)
			apart := c.do(slices.Clone(sample), slices.Clone(sample))
			if !slices.Equal(whole, was) || !slices.EqualFunc(once, apart, slices.Equal[api.Nat]) {
				t.Error(c.name, sample)
			}
		}
	}
}

func TestOfIsNewEachTime(t *testing.T) {
	a, b := nat.Of(7), nat.Of(7)
	spoil(a)
	if !slices.Equal(b, api.Nat{7}) {
		t.Error(b)
	}
}
