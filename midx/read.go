package midx

import (
	"trove/api"
	"trove/bin"
	"trove/idx"
	"trove/sha"
)

// checked asks b for what goes ahead of all packs.
func checked(b []byte) api.Errno {
	switch {
	case len(b) > api.MaxFile:
		return api.ErrLong
	case len(b) < sumSize:
		return api.ErrShort
	case len(b) < headSize+sumSize || string(b[:len(mark)]) != mark:
		return api.ErrForm
	}
	body := len(b) - sumSize
	if sha.Sum(b[:body]) != api.ID(b[body:]) {
		return api.ErrSum
	}
	return api.OK
}

// told answers the packs that b says, each with the rows that b takes from it. Only bytes that these make again are an index: so the table, the first numbers of the fanout, and whether there is so much, are not asked here. But it is not taken at its word for how much there is.
func told(b []byte) ([]Pack, api.Errno) {
	r := bin.New(b[len(mark):])
	count := r.U32()
	if count > maxPacks {
		return nil, api.ErrForm
	}
	r.Bytes(tableSize)
	packs := make([]Pack, count)
	for i := range packs {
		packs[i].Name = string(r.Bytes(nameSize))
		r.U8() // what ends the name
	}
	r.Bytes(padding(count*(nameSize+1)) + 4*(fans-1))
	ids, err := toldIDs(r)
	if err != api.OK {
		return nil, err
	}
	for _, id := range ids {
		pack, at := r.U32(), r.U32()
		if pack >= count {
			return nil, api.ErrForm
		}
		packs[pack].Rows = append(packs[pack].Rows, idx.Row{ID: id, At: at})
	}
	return packs, api.OK
}

// toldIDs takes how many IDs there are, and these.
func toldIDs(r *bin.Reader) ([]api.ID, api.Errno) {
	count := r.U32()
	if count > maxIDs {
		return nil, api.ErrForm
	}
	ids := make([]api.ID, count)
	for i := range ids {
		copy(ids[i][:], r.Bytes(len(ids[i])))
	}
	return ids, api.OK
}
