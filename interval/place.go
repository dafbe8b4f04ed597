package interval

import (
	"slices"

	"arras/api"
	"arras/graph"
)

// place is a node where it stands in a graph that may be.
type place struct {
	api.Node
	shape  []int
	taken  []int                  // A's shape, if the kind has A
	source func(entry int) source // where a number comes from; none of an input and a power, which are no sums
}

// placesOf are those of a graph's nodes.
func placesOf(g api.Graph) ([]place, api.Errno) {
	shapes, err := graph.Check(g)
	if err != api.OK {
		return nil, err
	}
	places := make([]place, len(shapes))
	for i, node := range g.Nodes {
		p := place{Node: node, shape: shapes[i], taken: shapes[node.A]}
		p.source = p.sums()
		places[i] = p
	}
	return places, api.OK
}

// way is how the span comes of those ahead.
func (p place) way() func(ahead spans) api.Span {
	switch p.Kind {
	case api.KindInput:
		return p.told
	case api.KindPower:
		return p.bent
	}
	return p.summed
}

func (p place) told(spans) api.Span {
	return api.Span{Lo: p.Lo, Hi: p.Hi}
}

func (p place) summed(ahead spans) api.Span {
	var ends []int
	for entry := range graph.Entries(p.shape) {
		s := p.source(entry)
		ends = append(ends, s.total(ahead.least), s.total(ahead.greatest))
	}
	return around(ends)
}

// bent asks the ends and what is next to the turning point alone: between them numbers only rise, or only fall.
func (p place) bent(ahead spans) api.Span {
	a := ahead[p.A]
	ends := []int{p.power(a.Lo), p.power(a.Hi)}
	if p.Data[powerA] != 0 {
		turning := -p.Data[powerB] / (2 * p.Data[powerA])
		for v := max(turning-1, a.Lo); v <= min(turning+1, a.Hi); v++ {
			ends = append(ends, p.power(v))
		}
	}
	return around(ends)
}

// numbers are the node's, if it is no input.
func (p place) numbers(ahead tensors) []int {
	list := make([]int, graph.Entries(p.shape))
	for entry := range list {
		if p.Kind == api.KindPower {
			list[entry] = p.power(ahead[p.A][entry])
		} else {
			list[entry] = p.source(entry).total(ahead.times)
		}
	}
	return list
}

// power is a power's number, of A's.
func (p place) power(v int) int {
	return (p.Data[powerA]*v+p.Data[powerB])*v + p.Data[powerC]
}

// takes asks whether a row may be an input's numbers.
func (p place) takes(row []int) bool {
	isOutside := func(v int) bool { return v < p.Lo || v > p.Hi }
	return len(row) == graph.Entries(p.shape) && !slices.ContainsFunc(row, isOutside)
}

// around is from the least number to the greatest.
func around(numbers []int) api.Span {
	return api.Span{Lo: slices.Min(numbers), Hi: slices.Max(numbers)}
}
