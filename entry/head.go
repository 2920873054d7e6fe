package entry

import (
	"bytes"

	"trove/api"
	"trove/bin"
)

// A head's first byte: whether more follow, the kind, and the size's lowest bits.
const (
	goesOn    = 0x80
	kindBits  = 7
	kindShift = 4
	sizeBits  = 0x0F
	sizeShift = 4
)

const (
	maxHead = 8 // bytes
	maxKind = 7
	maxSize = 1 << 40 // that is put; what is read may be more
)

// Head answers the kind and the size that b's front says, and how many bytes say it.
func Head(b []byte) (kind, size, n int, err api.Errno) {
	if len(b) == 0 {
		return 0, 0, 0, api.ErrShort
	}
	first := int(b[0])
	kind, size = first>>kindShift&kindBits, first&sizeBits
	if first < goesOn {
		return kind, size, 1, api.OK
	}
	more, n, err := bin.Size(b[1:min(len(b), maxHead)])
	switch {
	case err == api.OK:
		return kind, more<<sizeShift | size, 1 + n, api.OK
	case len(b) < maxHead:
		return 0, 0, 0, api.ErrShort
	}
	return 0, 0, 0, api.ErrLong // as many bytes as may be all go on, even if b ends behind them
}

// PutHead answers b, and the head of that kind and size behind it.
func PutHead(b []byte, kind, size int) ([]byte, api.Errno) {
	if kind < 1 || kind > maxKind || size < 0 || size > maxSize {
		return nil, api.ErrArg
	}
	first := byte(kind<<kindShift | size&sizeBits)
	more := size >> sizeShift
	if more == 0 {
		return behind(b, first), api.OK
	}
	return bin.PutSize(behind(b, goesOn|first), more), api.OK
}

// behind copies b, since an append to b itself could write into spare room that is its owner's.
func behind(b []byte, c byte) []byte { return append(bytes.Clone(b), c) }
