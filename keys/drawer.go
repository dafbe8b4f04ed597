package keys

import (
	"arras/api"
	"arras/batch"
	"arras/param"
	"arras/ring"
	"arras/tape"
)

// drawer draws what is hidden by a secret.
type drawer struct {
	params api.Params
	ring   *ring.Ring
	slots  *batch.Batch
	secret api.Poly // of the top level
	tape   *tape.Tape
}

// pair is what hides an element.
type pair struct{ b, a api.Poly }

// drawerOf is a drawer, or the error that stands ahead of all of a tape's. A nil tape is not refused yet: it answers ErrArg to the first draw, behind what else a call asks.
func drawerOf(p api.Params, s []int64, t *tape.Tape) (drawer, api.Errno) {
	if err := param.Check(p); err != api.OK {
		return drawer{}, err
	}
	if !isSecret(p.N, s) {
		return drawer{}, api.ErrForm
	}
	// Parameters that may be have a ring and slots, and a secret has as many numbers as the ring's elements.
	polys, _ := ring.New(p.N, p.Q)
	slots, _ := batch.New(p)
	secret, _ := polys.Lift(s, param.Top(p))
	return drawer{params: p, ring: polys, slots: slots, secret: secret, tape: t}, api.OK
}

// relin draws the switch from the secret's square.
func (d drawer) relin() (api.Switch, api.Errno) {
	// Both are the same element, so nothing can be refused.
	square, _ := d.ring.Mul(d.secret, d.secret)
	return d.switchFrom(square)
}

// turn draws the switch from the turned secret.
func (d drawer) turn(step int) (api.Turn, api.Errno) {
	// A power of slots is odd, so nothing can be refused.
	turned, _ := d.ring.Turn(d.secret, d.slots.Power(step))
	key, err := d.switchFrom(turned)
	if err != api.OK {
		return api.Turn{}, err
	}
	return api.Turn{Step: step, Key: key}, api.OK
}

// switchFrom draws the switch from an element of the top level.
func (d drawer) switchFrom(f api.Poly) (api.Switch, api.Errno) {
	pairs, err := each(d.hide, d.pieces(f)...)
	if err != api.OK {
		return api.Switch{}, err
	}
	var key api.Switch
	for _, one := range pairs {
		key.B = append(key.B, one.b)
		key.A = append(key.A, one.a)
	}
	return key, api.OK
}

// hide draws what hides an element of the top level.
func (d drawer) hide(h api.Poly) (pair, api.Errno) {
	a, err := d.tape.Uniform(d.params.N, d.params.Q)
	if err != api.OK {
		return pair{}, err
	}
	numbers, err := d.tape.Errors(d.params.N, d.params.Width)
	if err != api.OK {
		return pair{}, err
	}
	// All elements are of the top level, so nothing can be refused.
	product, _ := d.ring.Mul(a, d.secret)
	noise, _ := d.ring.Lift(numbers, param.Top(d.params))
	mask, _ := d.ring.Add(product, noise)
	b, _ := d.ring.Sub(h, mask)
	return pair{b: b, a: a}, api.OK
}

// pieces are, for each prime, the element that is f modulo it and 0 modulo all others.
func (d drawer) pieces(f api.Poly) []api.Poly {
	pieces := make([]api.Poly, len(f.R))
	for place, residues := range f.R {
		pieces[place] = d.nought()
		copy(pieces[place].R[place], residues)
	}
	return pieces
}

// nought is the element 0 of the top level.
func (d drawer) nought() api.Poly {
	lists := make([][]uint64, len(d.params.Q))
	for place := range lists {
		lists[place] = make([]uint64, d.params.N)
	}
	return api.Poly{R: lists}
}

// each is what a drawer's method value draws of one thing behind the other.
func each[Thing, Drawn any](draw func(Thing) (Drawn, api.Errno), things ...Thing) ([]Drawn, api.Errno) {
	var all []Drawn
	for _, thing := range things {
		drawn, err := draw(thing)
		if err != api.OK {
			return nil, err
		}
		all = append(all, drawn)
	}
	return all, api.OK
}
