package tidy

import (
	"slices"

	"arras/api"
	"arras/interval"
)

// row is the new row, and where the nodes that were taken have their stand-ins in it.
type row struct {
	nodes    []api.Node
	standIns []int
}

// comer is a node that is being taken.
type comer struct {
	api.Node
	shape []int
}

// take gives a node its stand-in, step by step: a step that tells true has found it.
func (r *row) take(node api.Node, shape []int) {
	c := comer{node, shape}
	for _, step := range []func(c *comer) bool{r.turn, r.fold, r.find, r.lay} {
		if step(&c) {
			return
		}
	}
}

// turn lets it take the stand-ins of what it takes.
func (r *row) turn(c *comer) bool {
	eachTaken(&c.Node, func(taken *int) { *taken = r.standIns[*taken] })
	return false
}

// fold makes a constant of what takes nothing but constants.
func (r *row) fold(c *comer) bool {
	var ahead []api.Node
	last := c.Node
	eachTaken(&last, func(taken *int) {
		ahead = append(ahead, r.nodes[*taken])
		*taken = len(ahead) - 1
	})
	if len(ahead) == 0 || slices.ContainsFunc(ahead, isNoConstant) {
		return false
	}
	// No error comes: of constants alone all spans are within those that the whole graph has.
	numbers, _ := interval.Run(api.Graph{Nodes: append(ahead, last), Out: len(ahead)}, nil)
	c.Node = api.Node{Kind: api.KindConst, Shape: c.shape, Data: numbers}
	return false
}

// find looks for the same node: of two inputs each has numbers of its own.
func (r *row) find(c *comer) bool {
	place := slices.IndexFunc(r.nodes, c.isSame)
	if place < 0 || c.Kind == api.KindInput {
		return false
	}
	r.standIns = append(r.standIns, place)
	return true
}

// lay puts it behind all others.
func (r *row) lay(c *comer) bool {
	r.standIns = append(r.standIns, len(r.nodes))
	r.nodes = append(r.nodes, c.Node)
	return true
}

// isSame asks all fields.
func (c *comer) isSame(node api.Node) bool {
	return c.Kind == node.Kind && c.A == node.A && c.B == node.B && c.Size == node.Size && ends(c.Node) == ends(node) &&
		slices.Equal(c.Shape, node.Shape) && slices.Equal(c.Data, node.Data) && slices.Equal(c.Bias, node.Bias)
}

func ends(node api.Node) api.Span {
	return api.Span{Lo: node.Lo, Hi: node.Hi}
}

func isNoConstant(node api.Node) bool {
	return node.Kind != api.KindConst
}

// eachTaken goes through the places that the node's kind has: A, or A and B.
func eachTaken(node *api.Node, do func(taken *int)) {
	if node.Kind == api.KindInput || node.Kind == api.KindConst {
		return
	}
	do(&node.A)
	if node.Kind == api.KindAdd {
		do(&node.B)
	}
}
