package linear

import (
	"slices"

	"arras/api"
	"arras/graph"
)

// Where a kernel's channels, height and width stand in a Conv's Shape.
const (
	kernelIn     = 1
	kernelHeight = 2
	kernelWidth  = 3
)

// behind is a node that may be behind a tensor, whose shape is in.
type behind struct {
	api.Node
	in, out []int
}

// weights is the way to read the weight with which an entry goes into a number; none of a kind that has no rows.
func (b behind) weights() func(number, entry int) int {
	switch b.Kind {
	case api.KindDense:
		return b.dense
	case api.KindConv:
		return b.conv
	case api.KindPool:
		return b.pool
	case api.KindFlat:
		return b.flat
	}
	return nil
}

func (b behind) dense(number, entry int) int {
	return b.Data[number*graph.Entries(b.in)+entry]
}

func (b behind) conv(number, entry int) int {
	to, from := spotOf(number, b.out), spotOf(entry, b.in)
	i, j := from.y-to.y, from.x-to.x
	if i < 0 || i >= b.Shape[kernelHeight] || j < 0 || j >= b.Shape[kernelWidth] {
		return 0
	}
	line := (to.channel*b.Shape[kernelIn]+from.channel)*b.Shape[kernelHeight] + i
	return b.Data[line*b.Shape[kernelWidth]+j]
}

func (b behind) pool(number, entry int) int {
	from := spotOf(entry, b.in)
	return oneIf(spotOf(number, b.out) == spot{from.channel, from.y / b.Size, from.x / b.Size})
}

func (b behind) flat(number, entry int) int {
	return oneIf(number == entry)
}

// biases are all numbers': a Dense has one for each of them, a Conv one for each channel.
func (b behind) biases() []int {
	count := graph.Entries(b.out)
	if len(b.Bias) == 0 {
		return make([]int, count)
	}
	var list []int
	for _, bias := range b.Bias {
		list = append(list, slices.Repeat([]int{bias}, count/len(b.Bias))...)
	}
	return list
}

func oneIf(holds bool) int {
	if holds {
		return 1
	}
	return 0
}
