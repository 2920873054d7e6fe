package midx

import (
	"trove/api"
	"trove/bin"
	"trove/oid"
	"trove/sha"
)

const (
	mark      = "MIDX\x01\x01\x04\x00" // the sign, the form's number, SHA-1's, how many chunks, of no index below
	headSize  = len(mark) + 4
	tableSize = 5 * (4 + 8)
	fans      = 256
	sumSize   = len(api.ID{})
)

// chunk is a piece of an index behind its table, and its letters there.
type chunk struct {
	letters string
	body    []byte
}

// written answers the bytes of an index.
func (x *Index) written() []byte {
	b := append([]byte(mark), bin.Put32(nil, len(x.packs))...)
	l := x.chunks()
	at := headSize + tableSize
	for _, c := range l {
		b = append(b, c.letters...)
		b = append(b, bin.Put64(nil, at)...)
		at += len(c.body)
	}
	for _, c := range l {
		b = append(b, c.body...)
	}
	id := sha.Sum(b)
	return append(b, id[:]...)
}

// chunks answers the pieces in order; one of nothing stands behind them, whose place is their end.
func (x *Index) chunks() []chunk {
	return []chunk{{"PNAM", x.names()}, {"OIDF", x.fanout()}, {"OIDL", x.list()}, {"OOFF", x.places()}, {"\x00\x00\x00\x00", nil}}
}

func (x *Index) names() []byte {
	var b []byte
	for _, name := range x.packs {
		b = append(b, name...)
		b = append(b, 0)
	}
	return append(b, make([]byte, padding(len(b)))...)
}

// padding answers how many bytes n lacks to a multiple of 4.
func padding(n int) int { return (4 - n%4) % 4 }

func (x *Index) fanout() []byte {
	var b []byte
	for _, n := range oid.Fanout(x.ids) {
		b = append(b, bin.Put32(nil, n)...)
	}
	return b
}

func (x *Index) list() []byte {
	var b []byte
	for _, id := range x.ids {
		b = append(b, id[:]...)
	}
	return b
}

func (x *Index) places() []byte {
	var b []byte
	for _, s := range x.spots {
		b = append(b, bin.Put32(nil, s.pack)...)
		b = append(b, bin.Put32(nil, s.at)...)
	}
	return b
}
