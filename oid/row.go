package oid

import (
	"slices"
	"sort"

	"trove/api"
)

// row is names one behind the other; where one is looked for, they are rising, each once.
type row []api.ID

func (r row) Len() int           { return len(r) }
func (r row) Less(i, j int) bool { return Less(r[i], r[j]) }
func (r row) Swap(i, j int)      { r[i], r[j] = r[j], r[i] }

// sorted answers a new row of the same names, rising.
func (r row) sorted() row {
	out := slices.Clone(r)
	sort.Sort(out)
	return out
}

// reaches tells whether the name at a place is id or stands behind it.
func (r row) reaches(at int, id api.ID) bool { return !Less(r[at], id) }

// passes tells whether the name at a place stands behind id.
func (r row) passes(at int, id api.ID) bool { return Less(id, r[at]) }

// first answers the first place that is so by id, or the row's end: all places behind one that is so must be too.
func (r row) first(so func(row, int, api.ID) bool, id api.ID) int {
	return sort.Search(len(r), func(at int) bool { return so(r, at, id) })
}

// alike answers how many signs the name at a place begins with that another one begins with too: no other has more of them than a neighbour.
func (r row) alike(at int) int {
	n := 0
	if at > 0 {
		n = common(r[at], r[at-1])
	}
	if at+1 < len(r) {
		n = max(n, common(r[at], r[at+1]))
	}
	return n
}

// common answers how many signs ahead of the first unlike one a and b have.
func common(a, b api.ID) int {
	for k := range a {
		switch {
		case a[k]>>4 != b[k]>>4:
			return 2 * k
		case a[k] != b[k]:
			return 2*k + 1
		}
	}
	return hexSize
}
