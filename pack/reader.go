package pack

import (
	"arras/api"
	"arras/param"
)

// reader reads what is left of bytes. Behind the parameters it knows them.
type reader struct {
	left   []byte
	params api.Params
	level  int    // of the elements that are read
	step   uint64 // of the turn that was read last
}

// read reads a part of a kind, behind its parameters, and asks whether anything stands behind it.
func read[Part any](b []byte, kind uint64, partOf func(r *reader) (Part, api.Errno)) (api.Params, Part, api.Errno) {
	r := &reader{left: b}
	part, err := behindHead(r, kind, partOf)
	if err == api.OK && len(r.left) > 0 {
		err = api.ErrTrail
	}
	if err != api.OK {
		var none Part
		return api.Params{}, none, err
	}
	return r.params, part, api.OK
}

// behindHead reads the kind, the parameters, and the part that stands behind them.
func behindHead[Part any](r *reader, kind uint64, partOf func(r *reader) (Part, api.Errno)) (Part, api.Errno) {
	var none Part
	if _, err := r.between(sizeKind, kind, kind); err != api.OK {
		return none, err
	}
	if err := r.parameters(); err != api.OK {
		return none, err
	}
	return partOf(r)
}

// many reads so many things, one behind the other, up to the first error. Room grows as they come: a count may promise far more than there is.
func many[Thing any](r *reader, count int, read func(r *reader) (Thing, api.Errno)) ([]Thing, api.Errno) {
	var things []Thing
	for range count {
		thing, err := read(r)
		if err != api.OK {
			return nil, err
		}
		things = append(things, thing)
	}
	return things, api.OK
}

// number reads one of so many bytes.
func (r *reader) number(size int) (uint64, api.Errno) {
	if len(r.left) < size {
		return 0, api.ErrShort
	}
	var v uint64
	for _, b := range r.left[:size] {
		v = v<<8 | uint64(b)
	}
	r.left = r.left[size:]
	return v, api.OK
}

// between reads a number that may stand there from the least to the most.
func (r *reader) between(size int, least, most uint64) (uint64, api.Errno) {
	v, err := r.number(size)
	if err != api.OK {
		return 0, err
	}
	if v < least || v > most {
		return 0, api.ErrForm
	}
	return v, api.OK
}

// parameters reads those that all that follows goes with.
func (r *reader) parameters() api.Errno {
	head, err := each([]int{sizeN, sizeT, sizeWidth, sizePrimes}, r.number)
	if err != api.OK {
		return err
	}
	primes, err := many(r, int(head[3]), (*reader).prime)
	if err != api.OK {
		return err
	}
	r.params = api.Params{N: int(head[0]), T: head[1], Q: primes, Width: int(head[2])}
	r.level = param.Top(r.params)
	return param.Check(r.params)
}

// prime reads one of the parameters' primes.
func (r *reader) prime() (uint64, api.Errno) {
	return r.number(sizePrime)
}

// nothing reads no more than parameters.
func (r *reader) nothing() (nothing, api.Errno) {
	return nothing{}, api.OK
}

// cipher reads a ciphertext.
func (r *reader) cipher() (api.Cipher, api.Errno) {
	count, err := r.between(sizeParts, fewestParts, mostParts)
	if err != api.OK {
		return api.Cipher{}, err
	}
	level, err := r.between(sizeLevel, 0, uint64(param.Top(r.params)))
	if err != api.OK {
		return api.Cipher{}, err
	}
	r.level = int(level)
	parts, err := many(r, int(count), (*reader).element)
	return api.Cipher{C: parts}, err
}

// public reads a public key.
func (r *reader) public() (api.Public, api.Errno) {
	sides, err := many(r, 2, (*reader).element)
	if err != api.OK {
		return api.Public{}, err
	}
	return api.Public{B: sides[0], A: sides[1]}, api.OK
}

// secret reads a secret.
func (r *reader) secret() ([]int64, api.Errno) {
	return many(r, r.params.N, (*reader).sign)
}

// sign reads one of a secret's numbers.
func (r *reader) sign() (int64, api.Errno) {
	v, err := r.between(sizeSign, 0, minusOne)
	if v == minusOne {
		return -1, err
	}
	return int64(v), err
}

// keys reads keys.
func (r *reader) keys() (api.Keys, api.Errno) {
	relin, err := r.key()
	if err != api.OK {
		return api.Keys{}, err
	}
	count, err := r.number(sizeTurns)
	if err != api.OK {
		return api.Keys{}, err
	}
	turns, err := many(r, int(count), (*reader).turn)
	return api.Keys{Relin: relin, Turns: turns}, err
}

// turn reads a switch and its step, which is greater than the one ahead of it.
func (r *reader) turn() (api.Turn, api.Errno) {
	step, err := r.between(sizeStep, r.step+1, uint64(r.params.N/2-1))
	if err != api.OK {
		return api.Turn{}, err
	}
	r.step = step
	key, err := r.key()
	return api.Turn{Step: int(step), Key: key}, err
}

// key reads a switch, of each prime a pair as a public key is.
func (r *reader) key() (api.Switch, api.Errno) {
	pairs, err := many(r, len(r.params.Q), (*reader).public)
	if err != api.OK {
		return api.Switch{}, err
	}
	var key api.Switch
	for _, pair := range pairs {
		key.B = append(key.B, pair.B)
		key.A = append(key.A, pair.A)
	}
	return key, api.OK
}

// element reads one of the reader's level.
func (r *reader) element() (api.Poly, api.Errno) {
	lists, err := each(r.params.Q[:r.level+1], r.residues)
	return api.Poly{R: lists}, err
}

// residues reads an element's by a prime.
func (r *reader) residues(prime uint64) ([]uint64, api.Errno) {
	residue := func(r *reader) (uint64, api.Errno) { return r.between(sizeResidue, 0, prime-1) }
	return many(r, r.params.N, residue)
}
