// Package texts is what layers 12 to 14 ask of a text: N numbers below T, a polynomial.
package texts

import (
	"slices"

	"arras/api"
	"arras/nat"
	"arras/param"
	"arras/word"
)

// Centered are a text's coefficients modulo T, each the one that is least in size; ErrForm, if it is no text.
func Centered(p api.Params, text []uint64) ([]int64, api.Errno) {
	isTooGreat := func(c uint64) bool { return c >= p.T }
	if len(text) != p.N || slices.ContainsFunc(text, isTooGreat) {
		return nil, api.ErrForm
	}
	centered := make([]int64, len(text))
	for i, c := range text {
		centered[i] = word.Center(c, p.T)
	}
	return centered, api.OK
}

// Spread is a text's at a level; ErrParam, ErrLevel, if there is no such level; ErrForm, if it is no text.
func Spread(p api.Params, level int, text []uint64) (api.Poly, api.Errno) {
	step, _, err := param.Step(p, level)
	if err != api.OK {
		return api.Poly{}, err
	}
	centered, err := Centered(p, text)
	if err != api.OK {
		return api.Poly{}, err
	}
	lists := make([][]uint64, level+1)
	for place, q := range p.Q[:level+1] {
		lists[place] = times(centered, nat.Mod(step, q), q)
	}
	return api.Poly{R: lists}, api.OK
}

// times are numbers times a factor, modulo a prime.
func times(numbers []int64, factor, q uint64) []uint64 {
	list := make([]uint64, len(numbers))
	for i, v := range numbers {
		list[i] = word.Mul(word.Lift(v, q), factor, q)
	}
	return list
}
