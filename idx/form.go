package idx

import (
	"trove/api"
	"trove/bin"
	"trove/oid"
	"trove/sha"
)

const (
	mark      = "\xFFtOc\x00\x00\x00\x02" // the sign and the number of the form
	fans      = 256
	countAt   = len(mark) + 4*(fans-1) // of the fanout's last number, which is that of all rows
	frontSize = countAt + 4
	sumSize   = 20
	leastSize = frontSize + 2*sumSize

	farPlace = 1 << 31 // from here on a place has eight bytes; and the bit that tells so
)

// written answers the bytes of an index of rows that are sorted and may be.
func written(t table, trailer api.ID) []byte {
	b := []byte(mark)
	for _, n := range oid.Fanout(t.ids()) {
		b = append(b, bin.Put32(nil, n)...)
	}
	for _, row := range t {
		b = append(b, row.ID[:]...)
	}
	for _, row := range t {
		b = append(b, bin.Put32(nil, int(row.Crc))...)
	}
	near, far := places(t)
	b = append(b, near...)
	b = append(b, far...)
	b = append(b, trailer[:]...)
	id := sha.Sum(b)
	return append(b, id[:]...)
}

// places answers the four bytes of each row's place, and the table of those that have eight.
func places(t table) (near, far []byte) {
	count := 0
	for _, row := range t {
		at := row.At
		if at >= farPlace {
			far = append(far, bin.Put64(nil, at)...)
			at = farPlace | count
			count++
		}
		near = append(near, bin.Put32(nil, at)...)
	}
	return near, far
}

// checked asks b for what goes ahead of all rows: what answers OK says of no more rows than there may be.
func checked(b []byte) api.Errno {
	switch {
	case len(b) > api.MaxFile:
		return api.ErrLong
	case len(b) < leastSize:
		return api.ErrShort
	case string(b[:len(mark)]) != mark:
		return api.ErrForm
	}
	body := len(b) - sumSize
	if sha.Sum(b[:body]) != api.ID(b[body:]) {
		return api.ErrSum
	}
	if bin.New(b[countAt:frontSize]).U32() > api.MaxCount {
		return api.ErrLong
	}
	return api.OK
}

// read answers what b says, be it right or not: only bytes that make themselves again are an index. So the places of eight bytes are read in order, whatever their numbers are.
func read(b []byte) *Index {
	r, x := bin.New(b[len(mark):]), new(Index)
	for i := range x.until {
		x.until[i] = r.U32()
	}
	x.rows = make(table, x.until[fans-1])
	for i := range x.rows {
		x.rows[i].ID = name(r)
	}
	for i := range x.rows {
		x.rows[i].Crc = uint32(r.U32())
	}
	for i := range x.rows {
		x.rows[i].At = r.U32()
	}
	for i, row := range x.rows {
		if row.At >= farPlace {
			x.rows[i].At = r.U64()
		}
	}
	x.trailer = name(r)
	return x
}

// name takes a name: zero, if there is none any more.
func name(r *bin.Reader) api.ID {
	var id api.ID
	copy(id[:], r.Bytes(len(id)))
	return id
}
