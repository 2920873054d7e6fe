package midx

import (
	"container/heap"

	"trove/idx"
	"trove/oid"
)

// spot is where an object is: the number of its pack, and where its entry begins there.
type spot struct {
	pack int
	at   int
}

// merged answers the index of packs that are sorted and may be. An ID that several have comes from the first of them first, and from the others next: these are passed over.
func merged(packs []Pack) *Index {
	x := new(Index)
	for _, p := range packs {
		x.packs = append(x.packs, p.Name)
	}
	l := newRuns(packs)
	for l.Len() > 0 {
		pack, row := l.take()
		if n := len(x.ids); n == 0 || x.ids[n-1] != row.ID {
			x.ids = append(x.ids, row.ID)
			x.spots = append(x.spots, spot{pack: pack, at: row.At})
		}
	}
	return x
}

// run is what is left of a pack's rows, which are sorted: one of them at least.
type run struct {
	pack int
	rows []idx.Row
}

// runs is a heap of the packs of which something is left: on top is the one with the least ID, of several such the first pack.
type runs []run

func newRuns(packs []Pack) *runs {
	var l runs
	for number, p := range packs {
		if len(p.Rows) > 0 {
			l = append(l, run{pack: number, rows: p.Rows})
		}
	}
	heap.Init(&l)
	return &l
}

// take takes the next row of all, and tells its pack.
func (l *runs) take() (int, idx.Row) {
	top := (*l)[0]
	if len(top.rows) == 1 {
		heap.Pop(l)
	} else {
		(*l)[0].rows = top.rows[1:]
		heap.Fix(l, 0)
	}
	return top.pack, top.rows[0]
}

func (l runs) Len() int { return len(l) }

func (l runs) Less(i, j int) bool {
	a, b := l[i].rows[0].ID, l[j].rows[0].ID
	if a != b {
		return oid.Less(a, b)
	}
	return l[i].pack < l[j].pack
}

func (l runs) Swap(i, j int) { l[i], l[j] = l[j], l[i] }

// Push is for package heap alone.
func (l *runs) Push(x any) { *l = append(*l, x.(run)) }

// Pop is for package heap alone.
func (l *runs) Pop() any {
	end := len(*l) - 1
	last := (*l)[end]
	*l = (*l)[:end]
	return last
}
