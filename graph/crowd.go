package graph

import (
	"maps"
	"slices"

	"trove/api"
	"trove/oid"
)

// crowd is nodes by their IDs. Their parents are those that were handed in: not to be changed, nor kept.
type crowd map[api.ID]Node

// gathered answers the nodes of l, of several of one ID the first.
func gathered(l []Node) crowd {
	c := make(crowd, len(l))
	for _, n := range l {
		if _, is := c[n.ID]; !is {
			c[n.ID] = n
		}
	}
	return c
}

// within answers the same nodes, of their parents those that are there.
func (c crowd) within() crowd {
	out := make(crowd, len(c))
	for id, n := range c {
		var parents []api.ID
		for _, p := range n.Parents {
			if _, is := c[p]; is {
				parents = append(parents, p)
			}
		}
		n.Parents = parents
		out[id] = n
	}
	return out
}

// whole tells whether all parents are there.
func (c crowd) whole() bool {
	for _, n := range c {
		for _, p := range n.Parents {
			if _, is := c[p]; !is {
				return false
			}
		}
	}
	return true
}

// generations answers the generations of the nodes that have one: those whose parents are all there, and have one. One that leads back to itself has none, nor has what leads to such a one.
func (c crowd) generations() map[api.ID]int {
	w := newWork(c)
	for len(w.row) > 0 {
		id := w.row[0]
		w.row = w.row[1:]
		w.done(id)
	}
	return w.generations
}

// work is what is known of a crowd while its generations are found.
type work struct {
	crowd       crowd
	generations map[api.ID]int
	waits       map[api.ID]int      // how many of a node's parents have no generation yet; one that comes twice counts twice
	children    map[api.ID][]api.ID // of whom a node is a parent, as often as it is
	row         []api.ID            // nodes that wait no more, yet are to be worked off
}

func newWork(c crowd) *work {
	w := &work{crowd: c, generations: make(map[api.ID]int, len(c)), waits: make(map[api.ID]int, len(c)), children: make(map[api.ID][]api.ID)}
	for id, n := range c {
		w.waits[id] = len(n.Parents)
		for _, p := range n.Parents {
			w.children[p] = append(w.children[p], id)
		}
		if len(n.Parents) == 0 {
			w.row = append(w.row, id)
		}
	}
	return w
}

// done gives a node whose parents have generations its own, and puts behind the row whoever waited for it alone.
func (w *work) done(id api.ID) {
	greatest := 0
	for _, p := range w.crowd[id].Parents {
		greatest = max(greatest, w.generations[p])
	}
	w.generations[id] = greatest + 1
	for _, child := range w.children[id] {
		w.waits[child]--
		if w.waits[child] == 0 {
			w.row = append(w.row, child)
		}
	}
}

// rising answers the IDs that generations are of.
func rising(generations map[api.ID]int) []api.ID {
	return oid.Sort(slices.Collect(maps.Keys(generations)))
}
