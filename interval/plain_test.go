package interval_test

import (
	"math"
	"slices"

	"arras/api"
	"arras/graph"
)

// plain goes by the chapter's words, sum by sum and place by place.
type plain struct {
	g      api.Graph
	shapes [][]int
}

func plainOf(g api.Graph) plain {
	shapes, _ := graph.Check(g)
	return plain{g, shapes}
}

// piece is one thing that is added up: a number of A's, and a weight; from is -1 for what is no number of A's.
type piece struct{ weight, from int }

// at is where a tensor's number of three places stands: all those ahead of it are counted.
func at(shape []int, c, y, x int) int {
	count := 0
	for cc := range shape[0] {
		for yy := range shape[1] {
			for xx := range shape[2] {
				if cc == c && yy == y && xx == x {
					return count
				}
				count++
			}
		}
	}
	return -1
}

// pieces are, number by number, what is added up of a Dense, a Conv or a Pool.
func (p plain) pieces(node int) [][]piece {
	n := p.g.Nodes[node]
	switch n.Kind {
	case api.KindDense:
		return denseOf(n)
	case api.KindConv:
		return convOf(n, p.shapes[n.A], p.shapes[node])
	default:
		return poolOf(n, p.shapes[n.A], p.shapes[node])
	}
}

func denseOf(n api.Node) [][]piece {
	var all [][]piece
	weights := n.Data
	for _, b := range n.Bias {
		sum := []piece{{b, -1}}
		columns := len(n.Data) / len(n.Bias)
		for from := range columns {
			sum = append(sum, piece{weights[0], from})
			weights = weights[1:]
		}
		all = append(all, sum)
	}
	return all
}

func convOf(n api.Node, in, shape []int) [][]piece {
	weights := map[[4]int]int{}
	next := 0
	for o := range n.Shape[0] {
		for c := range n.Shape[1] {
			for i := range n.Shape[2] {
				for j := range n.Shape[3] {
					weights[[4]int{o, c, i, j}] = n.Data[next]
					next++
				}
			}
		}
	}
	all := make([][]piece, shape[0]*shape[1]*shape[2])
	for o := range shape[0] {
		for y := range shape[1] {
			for x := range shape[2] {
				sum := []piece{{n.Bias[o], -1}}
				for c := range in[0] {
					for i := range n.Shape[2] {
						for j := range n.Shape[3] {
							sum = append(sum, piece{weights[[4]int{o, c, i, j}], at(in, c, y+i, x+j)})
						}
					}
				}
				all[at(shape, o, y, x)] = sum
			}
		}
	}
	return all
}

func poolOf(n api.Node, in, shape []int) [][]piece {
	all := make([][]piece, shape[0]*shape[1]*shape[2])
	for c := range in[0] {
		for y := range in[1] {
			for x := range in[2] {
				into := at(shape, c, y/n.Size, x/n.Size)
				all[into] = append(all[into], piece{1, at(in, c, y, x)})
			}
		}
	}
	return all
}

// numbers are all nodes', of inputs as they should be.
func (p plain) numbers(inputs [][]int) [][]int {
	var all [][]int
	for node, n := range p.g.Nodes {
		var list []int
		switch n.Kind {
		case api.KindInput:
			list, inputs = inputs[0], inputs[1:]
		case api.KindConst:
			list = n.Data
		case api.KindAdd:
			for i, v := range all[n.A] {
				list = append(list, v+all[n.B][i])
			}
		case api.KindScale:
			for _, v := range all[n.A] {
				list = append(list, v*n.Data[0])
			}
		case api.KindPower:
			for _, v := range all[n.A] {
				list = append(list, n.Data[2]*v*v+n.Data[1]*v+n.Data[0])
			}
		case api.KindFlat:
			list = all[n.A]
		default:
			for _, sum := range p.pieces(node) {
				list = append(list, summed(sum, all[n.A]))
			}
		}
		all = append(all, list)
	}
	return all
}

func summed(sum []piece, numbers []int) int {
	total := 0
	for _, one := range sum {
		if one.from < 0 {
			total += one.weight
		} else {
			total += one.weight * numbers[one.from]
		}
	}
	return total
}

// tried is from the least to the greatest of what all whole numbers of a span are made.
func tried(a api.Span, made func(v int) int) api.Span {
	s := api.Span{Lo: math.MaxInt, Hi: math.MinInt}
	for v := a.Lo; v <= a.Hi; v++ {
		s.Lo, s.Hi = min(s.Lo, made(v)), max(s.Hi, made(v))
	}
	return s
}

// sumSpan adds up, piece by piece, what the piece makes of each number of a span.
func sumSpan(sum []piece, a api.Span) api.Span {
	var s api.Span
	known := map[int]api.Span{}
	for _, one := range sum {
		if one.from < 0 {
			s.Lo, s.Hi = s.Lo+one.weight, s.Hi+one.weight
			continue
		}
		if _, is := known[one.weight]; !is {
			known[one.weight] = tried(a, func(v int) int { return one.weight * v })
		}
		s.Lo, s.Hi = s.Lo+known[one.weight].Lo, s.Hi+known[one.weight].Hi
	}
	return s
}

// joined is around several spans.
func joined(spans []api.Span) api.Span {
	s := spans[0]
	for _, other := range spans {
		s.Lo, s.Hi = min(s.Lo, other.Lo), max(s.Hi, other.Hi)
	}
	return s
}

// span is a node's, of those ahead of it.
func (p plain) span(node int, ahead []api.Span) api.Span {
	n := p.g.Nodes[node]
	switch n.Kind {
	case api.KindInput:
		return api.Span{Lo: n.Lo, Hi: n.Hi}
	case api.KindConst:
		return api.Span{Lo: slices.Min(n.Data), Hi: slices.Max(n.Data)}
	case api.KindAdd:
		return api.Span{Lo: ahead[n.A].Lo + ahead[n.B].Lo, Hi: ahead[n.A].Hi + ahead[n.B].Hi}
	case api.KindScale:
		return tried(ahead[n.A], func(v int) int { return v * n.Data[0] })
	case api.KindPower:
		return tried(ahead[n.A], func(v int) int { return n.Data[2]*v*v + n.Data[1]*v + n.Data[0] })
	case api.KindFlat:
		return ahead[n.A]
	}
	var spans []api.Span
	for _, sum := range p.pieces(node) {
		spans = append(spans, sumSpan(sum, ahead[n.A]))
	}
	return joined(spans)
}

// spans are all nodes', up to the first one that is beyond MaxValue.
func (p plain) spans() ([]api.Span, api.Errno) {
	var all []api.Span
	for node := range p.g.Nodes {
		s := p.span(node, all)
		if s.Lo < -1048576 || s.Hi > 1048576 {
			return nil, api.ErrRange
		}
		all = append(all, s)
	}
	return all, api.OK
}
