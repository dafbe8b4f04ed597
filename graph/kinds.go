package graph

import (
	"slices"

	"arras/api"
)

// A Conv's Shape has these numbers.
const (
	kernelOut = iota
	kernelIn
	kernelHeight
	kernelWidth
	kernelNumbers
)

// powerNumbers is how many a Power's Data has.
const powerNumbers = 3

func (p place) hasShape() bool {
	return Entries(p.Shape) > 0
}

func (p place) hasNumbers() bool {
	return p.hasShape() && len(p.Data) == Entries(p.Shape)
}

// hasBiases asks for no number of weights: whether they are rows is a matter of shapes.
func (p place) hasBiases() bool {
	return isCount(len(p.Bias))
}

func (p place) hasKernel() bool {
	if len(p.Shape) != kernelNumbers {
		return false
	}
	weights := 1
	for _, size := range p.Shape {
		if !isCount(size) {
			return false
		}
		weights *= size
	}
	return len(p.Data) == weights && len(p.Bias) == p.Shape[kernelOut]
}

func (p place) hasSize() bool {
	return p.Size >= 1
}

// hasAll is of a kind that has no more than what it takes.
func (p place) hasAll() bool {
	return true
}

func (p place) hasFactor() bool {
	return len(p.Data) == 1
}

func (p place) hasPowers() bool {
	return len(p.Data) == powerNumbers
}

// own is the shape that the node itself tells.
func (p place) own() []int {
	return slices.Clone(p.Shape)
}

// taken is A's shape.
func (p place) taken() []int {
	return slices.Clone(p.ahead[p.A])
}

func (p place) dense() []int {
	if len(p.Data) != len(p.Bias)*Entries(p.taken()) {
		return nil
	}
	return []int{len(p.Bias)}
}

func (p place) conv() []int {
	a := p.taken()
	if len(a) != mostNumbers || a[0] != p.Shape[kernelIn] {
		return nil
	}
	shape := []int{p.Shape[kernelOut], a[1] - p.Shape[kernelHeight] + 1, a[2] - p.Shape[kernelWidth] + 1}
	// Nor is there one if the kernel is higher or wider than A.
	if Entries(shape) == 0 {
		return nil
	}
	return shape
}

func (p place) pool() []int {
	a := p.taken()
	if len(a) != mostNumbers || a[1]%p.Size != 0 || a[2]%p.Size != 0 {
		return nil
	}
	return []int{a[0], a[1] / p.Size, a[2] / p.Size}
}

func (p place) add() []int {
	if !slices.Equal(p.ahead[p.A], p.ahead[p.B]) {
		return nil
	}
	return p.taken()
}

func (p place) flat() []int {
	if Entries(p.Shape) != Entries(p.taken()) {
		return nil
	}
	return p.own()
}

// isCount asks whether there may be so many.
func isCount(v int) bool {
	return v >= 1 && v <= api.MaxEntries
}
