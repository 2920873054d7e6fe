package graph

import "trove/api"

const (
	maxCommits = 2 * api.MaxCount // so no generation comes near the 2^29 that there may be at most
	dateBits   = 34
	maxDate    = 1<<dateBits - 1
)

// commit is a commit of a graph: its parents are numbers.
type commit struct {
	id, tree   api.ID
	date       int
	parents    []int
	generation int
}

// made answers the graph of nodes.
func made(l []Node) (*Graph, api.Errno) {
	all := gathered(l)
	if len(all) < len(l) || !all.whole() || !dated(l) {
		return nil, api.ErrArg
	}
	generations := all.generations()
	switch {
	case len(generations) < len(all):
		return nil, api.ErrLoop
	case len(all) > maxCommits:
		return nil, api.ErrLong
	}
	return numbered(all, generations), api.OK
}

// dated tells whether all dates are such as a graph can tell.
func dated(l []Node) bool {
	for _, n := range l {
		if n.Date < 0 || n.Date > maxDate {
			return false
		}
	}
	return true
}

// numbered answers the graph of nodes that all have generations.
func numbered(all crowd, generations map[api.ID]int) *Graph {
	g := &Graph{numbers: make(map[api.ID]int)}
	ids := rising(generations)
	for i, id := range ids {
		g.numbers[id] = i
	}
	for _, id := range ids {
		n := all[id]
		c := commit{id: id, tree: n.Tree, date: n.Date, generation: generations[id]}
		for _, p := range n.Parents {
			c.parents = append(c.parents, g.numbers[p])
		}
		g.commits = append(g.commits, c)
	}
	return g
}
