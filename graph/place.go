package graph

import (
	"slices"

	"arras/api"
)

// place is where a node stands: behind nodes that may be, of these shapes.
type place struct {
	api.Node
	ahead [][]int
}

// fields are parts of a node.
type fields int

const (
	fieldA fields = 1 << iota
	fieldB
	fieldShape
	fieldEnds
	fieldSize
	fieldData
	fieldBias
)

// rule is what a kind asks of its nodes.
type rule struct {
	has    fields
	isTold func(p place) bool  // Shape, Size and the numbers of Data and Bias are as told
	shape  func(p place) []int // none, if shapes don't go together
}

// ruleOf is a kind's; what is no kind has no fields.
func ruleOf(kind int) rule {
	switch kind {
	case api.KindInput:
		return rule{fieldShape | fieldEnds, place.hasShape, place.own}
	case api.KindConst:
		return rule{fieldShape | fieldData, place.hasNumbers, place.own}
	case api.KindDense:
		return rule{fieldA | fieldData | fieldBias, place.hasBiases, place.dense}
	case api.KindConv:
		return rule{fieldA | fieldShape | fieldData | fieldBias, place.hasKernel, place.conv}
	case api.KindPool:
		return rule{fieldA | fieldSize, place.hasSize, place.pool}
	case api.KindAdd:
		return rule{fieldA | fieldB, place.hasAll, place.add}
	case api.KindScale:
		return rule{fieldA | fieldData, place.hasFactor, place.taken}
	case api.KindPower:
		return rule{fieldA | fieldData, place.hasPowers, place.taken}
	case api.KindFlat:
		return rule{fieldA | fieldShape, place.hasShape, place.flat}
	}
	return rule{}
}

// check asks whether the node may be, and tells its shape.
func (p place) check() ([]int, api.Errno) {
	r := ruleOf(p.Kind)
	if r.has == 0 || !p.hasNoMore(r.has) || !p.isBehind(r.has) || !r.isTold(p) {
		return nil, api.ErrForm
	}
	shape := r.shape(p)
	if len(shape) == 0 {
		return nil, api.ErrShape
	}
	if !p.isWithin() {
		return nil, api.ErrRange
	}
	return shape, api.OK
}

// hasNoMore asks whether all other fields are 0 or empty.
func (p place) hasNoMore(has fields) bool {
	lacks := func(one fields) bool { return has&one == 0 }
	switch {
	case lacks(fieldA) && p.A != 0,
		lacks(fieldB) && p.B != 0,
		lacks(fieldShape) && len(p.Shape) > 0,
		lacks(fieldEnds) && (p.Lo != 0 || p.Hi != 0),
		lacks(fieldSize) && p.Size != 0,
		lacks(fieldData) && len(p.Data) > 0,
		lacks(fieldBias) && len(p.Bias) > 0:
		return false
	}
	return true
}

// isBehind asks whether the nodes that it takes are ahead of it.
func (p place) isBehind(has fields) bool {
	isAhead := func(node int) bool { return node >= 0 && node < len(p.ahead) }
	return (has&fieldA == 0 || isAhead(p.A)) && (has&fieldB == 0 || isAhead(p.B))
}

// isWithin asks whether no number is beyond what may be said of it.
func (p place) isWithin() bool {
	isBeyond := func(v int) bool { return v > api.MaxValue || v < -api.MaxValue }
	return p.Lo <= p.Hi && !isBeyond(p.Lo) && !isBeyond(p.Hi) && !slices.ContainsFunc(p.Data, isBeyond) && !slices.ContainsFunc(p.Bias, isBeyond)
}
