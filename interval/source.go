package interval

import (
	"arras/api"
	"arras/graph"
)

// A Power's Data has these numbers.
const (
	powerC = iota
	powerB
	powerA
)

// Where a picture's height and width stand in its shape, and a kernel's in a Conv's Shape.
const (
	height       = 1
	width        = 2
	kernelHeight = 2
	kernelWidth  = 3
)

// source is where a number comes from: terms and a bias, together.
type source struct {
	terms []term
	bias  int
}

// term is a number of a node ahead, times a weight.
type term struct{ weight, node, entry int }

// spans are those of the nodes ahead, tensors their numbers.
type (
	spans   []api.Span
	tensors [][]int
)

func (s spans) least(t term) int {
	return min(t.weight*s[t.node].Lo, t.weight*s[t.node].Hi)
}

func (s spans) greatest(t term) int {
	return max(t.weight*s[t.node].Lo, t.weight*s[t.node].Hi)
}

func (v tensors) times(t term) int {
	return t.weight * v[t.node][t.entry]
}

// total is what the terms bring, and the bias.
func (s source) total(brings func(t term) int) int {
	total := s.bias
	for _, t := range s.terms {
		total += brings(t)
	}
	return total
}

// sums is where the kind's numbers come from.
func (p place) sums() func(entry int) source {
	switch p.Kind {
	case api.KindConst:
		return p.constant
	case api.KindDense:
		return p.dense
	case api.KindConv:
		return p.conv
	case api.KindPool:
		return p.pool
	case api.KindAdd:
		return p.add
	case api.KindScale:
		return p.scale
	case api.KindFlat:
		return p.flat
	}
	return nil
}

func (p place) constant(entry int) source {
	return source{bias: p.Data[entry]}
}

func (p place) dense(entry int) source {
	all := make([]int, graph.Entries(p.taken))
	for i := range all {
		all[i] = i
	}
	return p.row(entry, all)
}

func (p place) conv(entry int) source {
	out, y, x := p.where(entry)
	var all []int
	for channel := range p.taken[0] {
		all = append(all, p.window(channel, y, x, p.Shape[kernelHeight], p.Shape[kernelWidth])...)
	}
	return p.row(out, all)
}

func (p place) pool(entry int) source {
	channel, y, x := p.where(entry)
	return p.alike(1, p.window(channel, y*p.Size, x*p.Size, p.Size, p.Size)...)
}

func (p place) add(entry int) source {
	return source{terms: []term{{1, p.A, entry}, {1, p.B, entry}}}
}

func (p place) scale(entry int) source {
	return p.alike(p.Data[0], entry)
}

func (p place) flat(entry int) source {
	return p.alike(1, entry)
}

// where is the place of a picture's entry.
func (p place) where(entry int) (channel, y, x int) {
	line := entry / p.shape[width]
	return line / p.shape[height], line % p.shape[height], entry % p.shape[width]
}

// window are the entries of a piece of one of A's channels, line by line.
func (p place) window(channel, top, left, high, wide int) []int {
	var entries []int
	for y := top; y < top+high; y++ {
		for x := left; x < left+wide; x++ {
			entries = append(entries, (channel*p.taken[height]+y)*p.taken[width]+x)
		}
	}
	return entries
}

// row is a source by a row of weights, as many as entries, and its bias.
func (p place) row(number int, entries []int) source {
	terms := make([]term, len(entries))
	for i, entry := range entries {
		terms[i] = term{p.Data[number*len(entries)+i], p.A, entry}
	}
	return source{terms, p.Bias[number]}
}

// alike is a source by one weight.
func (p place) alike(weight int, entries ...int) source {
	terms := make([]term, len(entries))
	for i, entry := range entries {
		terms[i] = term{weight, p.A, entry}
	}
	return source{terms: terms}
}
