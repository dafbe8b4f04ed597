package pack_test

import (
	"slices"
	"testing"

	"arras/api"
	hider "arras/cipher"
	drawer "arras/keys"
	"arras/tape"
)

// What was drawn and hidden is of use behind bytes as it was ahead of them.
func TestDrawnThingsThereAndBack(t *testing.T) {
	for _, p := range []api.Params{paramsOf(8, 17, 2, primesBelow(8, primeEnd, 2)...), great()[4]} {
		x := &mixer{state: 5}
		draws := make([]uint64, 60*p.N)
		for i := range draws {
			draws[i] = x.next()
		}
		chance := tape.New(draws)
		drawn, _ := drawer.Secret(p, chance)
		open, _ := drawer.Public(p, drawn, chance)
		all, err := drawer.All(p, drawn, []int{3}, chance)
		if err != api.OK {
			t.Fatal(err)
		}
		back := func(h thing) thing {
			got, err := read(h.kind, written(t, h))
			if err != api.OK || !sameThing(got, h) {
				t.Error(h.name(), err)
			}
			return got
		}
		text := make([]uint64, p.N)
		for i := range text {
			text[i] = x.next() % p.T
		}
		back(thing{kind: keys, p: p, keys: all})
		key := back(thing{kind: public, p: p, public: open})
		hidden, err := hider.Hide(key.p, key.public, text, chance)
		if err != api.OK {
			t.Fatal(err)
		}
		closed := back(thing{kind: secret, p: p, s: drawn})
		told, err := hider.Tell(closed.p, closed.s, back(thing{kind: cipher, p: p, c: hidden}).c)
		if err != api.OK || !slices.Equal(told, text) {
			t.Error(err, told, text)
		}
	}
}
