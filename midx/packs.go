package midx

import (
	"bytes"
	"math"
	"slices"
	"strings"

	"trove/api"
	"trove/idx"
	"trove/oid"
)

const (
	maxPacks = 64
	maxIDs   = 4 * api.MaxCount
	maxAt    = math.MaxInt32 // the last place that four bytes tell, whose highest bit has another meaning

	nameFront = "pack-"
	nameEnd   = ".idx"
	nameSize  = len(nameFront) + 2*len(api.ID{}) + len(nameEnd)
)

// sorted answers new packs of the same rows: the packs by their names, the rows of each by theirs.
func sorted(packs []Pack) []Pack {
	out := slices.Clone(packs)
	slices.SortFunc(out, func(a, b Pack) int { return strings.Compare(a.Name, b.Name) })
	for i := range out {
		out[i].Rows = slices.Clone(out[i].Rows)
		slices.SortFunc(out[i].Rows, func(a, b idx.Row) int { return bytes.Compare(a.ID[:], b.ID[:]) })
	}
	return out
}

// mayBe tells whether an index can be of these packs, which are sorted.
func mayBe(packs []Pack) bool {
	for i, p := range packs {
		if !isName(p.Name) || i > 0 && p.Name == packs[i-1].Name || !mayHave(p.Rows) {
			return false
		}
	}
	return true
}

func isName(name string) bool {
	if len(name) != nameSize || !strings.HasPrefix(name, nameFront) || !strings.HasSuffix(name, nameEnd) {
		return false
	}
	_, err := oid.Parse(name[len(nameFront) : nameSize-len(nameEnd)])
	return err == api.OK
}

// mayHave tells whether a pack can have these rows, which are sorted.
func mayHave(rows []idx.Row) bool {
	for i, row := range rows {
		if row.At < 0 || row.At > maxAt || i > 0 && row.ID == rows[i-1].ID {
			return false
		}
	}
	return true
}
