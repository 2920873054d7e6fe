package graph

import (
	"trove/api"
	"trove/bin"
	"trove/sha"
)

// checked asks b for what goes ahead of all commits.
func checked(b []byte) api.Errno {
	switch {
	case len(b) > api.MaxFile:
		return api.ErrLong
	case len(b) < leastSize:
		return api.ErrShort
	case string(b[:len(mark)]) != mark:
		return api.ErrForm
	}
	body := len(b) - sumSize
	if sha.Sum(b[:body]) != api.ID(b[body:]) {
		return api.ErrSum
	}
	return api.OK
}

// entry is what CDAT tells of a commit.
type entry struct {
	tree          api.ID
	first, second int
	date          int
}

// told answers the nodes that b tells. Only bytes that these make again are a graph: so the table, the first numbers of the fanout, the generations, and whether there is so much, are not asked here. But b is not taken at its word for how much there is.
func told(b []byte) ([]Node, api.Errno) {
	r := bin.New(b[headSize : len(b)-sumSize])
	r.Bytes((int(b[countAt])+1)*rowSize + 4*(fans-1))
	count := r.U32()
	if count > maxCommits {
		return nil, api.ErrForm
	}
	ids, entries := make([]api.ID, count), make([]entry, count)
	for i := range ids {
		ids[i] = name(r)
	}
	for i := range entries {
		entries[i] = toldEntry(r)
	}
	l := make([]Node, count)
	for i, e := range entries {
		l[i] = Node{ID: ids[i], Tree: e.tree, Date: e.date}
		for _, p := range toldParents(e, r) {
			if p >= count {
				return nil, api.ErrForm
			}
			l[i].Parents = append(l[i].Parents, ids[p])
		}
	}
	return l, api.OK
}

func toldEntry(r *bin.Reader) entry {
	e := entry{tree: name(r), first: r.U32(), second: r.U32()}
	high := r.U32() // the generation, and what of the date is above its lowest 32 bits
	e.date = (high<<32 | r.U32()) & maxDate
	return e
}

// toldParents answers the numbers of a commit's parents. Those of EDGE are taken one after the other, whatever the number of the row is, since Build puts them in so: thus none is taken twice.
func toldParents(e entry, edges *bin.Reader) []int {
	if e.first == noParent {
		return nil
	}
	l := []int{e.first}
	if e.second == noParent {
		return l
	}
	if e.second < highest {
		return append(l, e.second)
	}
	for edges.Left() > 0 {
		p := edges.U32()
		l = append(l, p&^highest)
		if p >= highest {
			break
		}
	}
	return l
}

// name takes a name: zero, if there is none any more.
func name(r *bin.Reader) api.ID {
	var id api.ID
	copy(id[:], r.Bytes(len(id)))
	return id
}
