package chain

import (
	"trove/api"
	"trove/entry"
	"trove/object"
)

// counted answers the entries of a pack with the Back of each Ofs in entries, as pack.Write counts it.
func counted(l []entry.Entry) []entry.Entry {
	places := map[int]int{}
	var out []entry.Entry
	for n, e := range l {
		places[e.At] = n
		if e.Kind == entry.Ofs {
			e.Back = n - places[e.At-e.Back]
		}
		out = append(out, e)
	}
	return out
}

// wholes answers the entries of whole objects.
func wholes(l []Object) ([]entry.Entry, api.Errno) {
	var out []entry.Entry
	long := false
	for _, o := range l {
		if !named(o) {
			return nil, api.ErrForm
		}
		long = long || len(o.Data) > api.MaxObject
		out = append(out, entry.Entry{Kind: o.Kind, Data: o.Data})
	}
	if long { // asked here, since pack.Write calls it ErrArg
		return nil, api.ErrLong
	}
	return out, api.OK
}

// named tells whether o has its own name; what is of no kind has none.
func named(o Object) bool {
	return object.Word(o.Kind) != "" && o.ID == object.ID(o.Kind, o.Data)
}
