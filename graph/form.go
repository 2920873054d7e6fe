package graph

import (
	"trove/api"
	"trove/bin"
	"trove/oid"
	"trove/sha"
)

const (
	mark      = "CGPH\x01\x01" // the sign, the form's number, SHA-1's
	countAt   = len(mark)      // how many chunks
	headSize  = len(mark) + 2
	rowSize   = 4 + 8 // of the table
	fans      = 256
	sumSize   = len(api.ID{})
	leastSize = headSize + sumSize

	noParent = 0x70000000
	highest  = 1 << 31 // of a second parent: it is the number of a row of EDGE; there: no more parents of that commit
	edgeSize = 4
)

// chunk is a piece of a graph behind its table, and its letters there.
type chunk struct {
	letters string
	body    []byte
}

// written answers the bytes of a graph.
func (g *Graph) written() []byte {
	l := g.chunks()
	b := append([]byte(mark), byte(len(l)-1), 0) // the end has a row, and is no chunk
	at := headSize + len(l)*rowSize
	for _, c := range l {
		b = append(b, c.letters...)
		b = append(b, bin.Put64(nil, at)...)
		at += len(c.body)
	}
	for _, c := range l {
		b = append(b, c.body...)
	}
	id := sha.Sum(b)
	return append(b, id[:]...)
}

// chunks answers the pieces in order; one of nothing stands behind them, whose place is their end.
func (g *Graph) chunks() []chunk {
	fanout, list := g.names()
	data, edges := g.data()
	l := []chunk{{"OIDF", fanout}, {"OIDL", list}, {"CDAT", data}}
	if len(edges) > 0 {
		l = append(l, chunk{"EDGE", edges})
	}
	return append(l, chunk{"\x00\x00\x00\x00", nil})
}

func (g *Graph) names() (fanout, list []byte) {
	var ids []api.ID
	for _, c := range g.commits {
		ids = append(ids, c.id)
		list = append(list, c.id[:]...)
	}
	for _, n := range oid.Fanout(ids) {
		fanout = append(fanout, bin.Put32(nil, n)...)
	}
	return fanout, list
}

func (g *Graph) data() (data, edges []byte) {
	for _, c := range g.commits {
		first, second := c.firstTwo()
		if len(c.parents) > 2 {
			second = highest | len(edges)/edgeSize
			edges = append(edges, asEdges(c.parents[1:])...)
		}
		data = append(data, c.tree[:]...)
		data = append(data, bin.Put32(nil, first)...)
		data = append(data, bin.Put32(nil, second)...)
		data = append(data, bin.Put64(nil, c.generation<<dateBits|c.date)...)
	}
	return data, edges
}

func (c commit) firstTwo() (first, second int) {
	first, second = noParent, noParent
	if len(c.parents) > 0 {
		first = c.parents[0]
	}
	if len(c.parents) > 1 {
		second = c.parents[1]
	}
	return first, second
}

// asEdges answers parents, of which there is one at least, as they stand in EDGE.
func asEdges(parents []int) []byte {
	var b []byte
	end := len(parents) - 1
	for _, p := range parents[:end] {
		b = append(b, bin.Put32(nil, p)...)
	}
	return append(b, bin.Put32(nil, highest|parents[end])...)
}
