package pack

import (
	"slices"

	"arras/api"
	"arras/keys"
	"arras/param"
	"arras/ring"
)

// writer writes what goes with its parameters, which may be.
type writer struct {
	params api.Params
	bytes  []byte
}

// write writes a part of a kind, behind its parameters: lay refuses what is no such part.
func write[Part any](p api.Params, kind uint64, part Part, lay func(w *writer, part Part) api.Errno) ([]byte, api.Errno) {
	if err := param.Check(p); err != api.OK {
		return nil, err
	}
	w := &writer{params: p}
	w.number(sizeKind, kind)
	w.parameters()
	if err := lay(w, part); err != api.OK {
		return nil, err
	}
	return w.bytes, api.OK
}

// number writes one of so many bytes.
func (w *writer) number(size int, v uint64) {
	for place := size - 1; place >= 0; place-- {
		w.bytes = append(w.bytes, byte(v>>uint(8*place)))
	}
}

// parameters writes the writer's.
func (w *writer) parameters() {
	w.number(sizeN, uint64(w.params.N))
	w.number(sizeT, w.params.T)
	w.number(sizeWidth, uint64(w.params.Width))
	w.number(sizePrimes, uint64(len(w.params.Q)))
	for _, q := range w.params.Q {
		w.number(sizePrime, q)
	}
}

// nothing writes no more than parameters.
func (w *writer) nothing(nothing) api.Errno {
	return api.OK
}

// cipher writes a ciphertext.
func (w *writer) cipher(c api.Cipher) api.Errno {
	if len(c.C) < fewestParts || len(c.C) > mostParts {
		return api.ErrForm
	}
	level, err := w.level(c.C...)
	if err != api.OK {
		return err
	}
	w.number(sizeParts, uint64(len(c.C)))
	w.number(sizeLevel, uint64(level))
	w.elements(c.C...)
	return api.OK
}

// public writes a public key.
func (w *writer) public(k api.Public) api.Errno {
	level, err := w.level(k.B, k.A)
	if err != api.OK || level != param.Top(w.params) {
		return api.ErrForm
	}
	w.elements(k.B, k.A)
	return api.OK
}

// secret writes a secret.
func (w *writer) secret(s []int64) api.Errno {
	if len(s) != w.params.N {
		return api.ErrForm
	}
	for _, v := range s {
		switch v {
		case 0, 1:
			w.number(sizeSign, uint64(v))
		case -1:
			w.number(sizeSign, minusOne)
		default:
			return api.ErrForm
		}
	}
	return api.OK
}

// keys writes keys.
func (w *writer) keys(k api.Keys) api.Errno {
	if !w.mayKeys(k) {
		return api.ErrForm
	}
	w.key(k.Relin)
	w.number(sizeTurns, uint64(len(k.Turns)))
	for _, turn := range k.Turns {
		w.number(sizeStep, uint64(turn.Step))
		w.key(turn.Key)
	}
	return api.OK
}

// mayKeys asks whether all switches are right, and the turns' steps rise below the slots.
func (w *writer) mayKeys(k api.Keys) bool {
	last := 0
	for _, turn := range k.Turns {
		if turn.Step <= last || turn.Step >= w.params.N/2 || !keys.Right(w.params, turn.Key) {
			return false
		}
		last = turn.Step
	}
	return keys.Right(w.params, k.Relin)
}

// key writes a switch that is right.
func (w *writer) key(k api.Switch) {
	for i, b := range k.B {
		w.elements(b, k.A[i])
	}
}

// elements writes such as the parameters have.
func (w *writer) elements(elements ...api.Poly) {
	for _, a := range elements {
		for _, residues := range a.R {
			for _, residue := range residues {
				w.number(sizeResidue, residue)
			}
		}
	}
}

// level is that of all elements; ErrForm, if they have none that is the same.
func (w *writer) level(elements ...api.Poly) (int, api.Errno) {
	// Parameters that may be have a ring.
	r, _ := ring.New(w.params.N, w.params.Q)
	levels, err := each(elements, r.Level)
	if err != api.OK || len(slices.Compact(levels)) != 1 {
		return 0, api.ErrForm
	}
	return levels[0], api.OK
}
