package param_test

import (
	"slices"
	"testing"

	"arras/api"
	"arras/param"
)

const spare = 0x5a5a5a5a5a5a5a5a

// spoil writes over a list and its spare room.
func spoil(list []uint64) {
	list = list[:cap(list)]
	for i := range list {
		list[i] ^= spare
	}
}

// roomy is parameters with spare room behind their primes, and the whole of that memory.
func roomy(p api.Params) (api.Params, []uint64) {
	room := append(slices.Clone(p.Q), spare, spare, spare)
	p.Q = room[:len(p.Q)]
	return p, room[:cap(room)]
}

// calls make each call once, and answer what it made.
func calls(p api.Params, level int) []api.Nat {
	param.Check(p)
	param.Top(p)
	param.Same(p, p)
	modulus, _ := param.Modulus(p, level)
	step, _, _ := param.Step(p, level)
	return []api.Nat{modulus, step}
}

func TestWhatIsHandedInStays(t *testing.T) {
	for _, one := range append(good(), wrong()...) {
		p, room := roomy(one)
		was := slices.Clone(room)
		for level := -1; level <= min(len(p.Q), 9); level++ {
			for _, list := range calls(p, level) {
				if !slices.Equal(room, was) {
					t.Fatal("changed", name(one), level)
				}
				spoil(list)
				if !slices.Equal(room, was) {
					t.Fatal("shared", name(one), level)
				}
			}
		}
	}
}

func TestWhatIsAnsweredIsNew(t *testing.T) {
	for _, one := range good() {
		for level := range one.Q {
			p, room := roomy(one)
			first, second := calls(p, level), calls(p, level)
			was := []api.Nat{slices.Clone(first[0]), slices.Clone(first[1])}
			spoil(room)
			for i := range first {
				if !slices.Equal(first[i], was[i]) {
					t.Error("kept", name(one), level)
				}
				spoil(first[i])
				if !slices.Equal(second[i], was[i]) {
					t.Error("shared", name(one), level)
				}
			}
			for i, list := range calls(one, level) {
				if !slices.Equal(list, was[i]) {
					t.Error("later", name(one), level)
				}
			}
		}
	}
}
