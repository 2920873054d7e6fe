package idx

import (
	"slices"
	"sort"

	"trove/api"
	"trove/oid"
)

const mostAt = 1 << 40 // the last byte of a pack that an index tells of

// table is rows one behind the other; where one is looked for, their names are rising, each once.
type table []Row

func (t table) Len() int           { return len(t) }
func (t table) Less(i, j int) bool { return oid.Less(t[i].ID, t[j].ID) }
func (t table) Swap(i, j int)      { t[i], t[j] = t[j], t[i] }

// sorted answers a new table of the same rows, by their names.
func (t table) sorted() table {
	out := slices.Clone(t)
	sort.Sort(out)
	return out
}

// mayBe tells whether an index can have these rows, which are sorted.
func (t table) mayBe() bool {
	for i, row := range t {
		if row.At < 0 || row.At > mostAt || i > 0 && row.ID == t[i-1].ID {
			return false
		}
	}
	return true
}

// find answers the row of a name.
func (t table) find(id api.ID) (Row, bool) {
	i := sort.Search(len(t), func(i int) bool { return !oid.Less(t[i].ID, id) })
	if i == len(t) || t[i].ID != id {
		return Row{}, false
	}
	return t[i], true
}

// ids answers the names, in order.
func (t table) ids() []api.ID {
	var out []api.ID
	for _, row := range t {
		out = append(out, row.ID)
	}
	return out
}
