package bin

import (
	"slices"

	"trove/api"
)

const (
	lowSeven  = 0x7F
	goesOn    = 0x80
	maxSize   = 9 // bytes of a size: nine times seven bits are what an int holds
	maxOffset = 8 // bytes of an offset
)

// PutSize answers b, and v behind it, seven bits a byte, the lowest first; b alone if v is below 0.
func PutSize(b []byte, v int) []byte {
	out := withRoom(b, maxSize)
	if v < 0 {
		return out
	}
	for ; v > lowSeven; v >>= 7 {
		out = append(out, goesOn|byte(v&lowSeven))
	}
	return append(out, byte(v))
}

// Size answers the number at b's front that PutSize writes, and how many bytes it has.
func Size(b []byte) (v, n int, err api.Errno) {
	for i, c := range front(b, maxSize) {
		v |= int(c&lowSeven) << (7 * i)
		if c < goesOn {
			return v, i + 1, api.OK
		}
	}
	return 0, 0, unended(b, maxSize)
}

// PutOffset answers b, and v behind it in the other form, the highest seven bits first; b alone if v is below 0.
func PutOffset(b []byte, v int) []byte {
	if v < 0 {
		return withRoom(b, 0)
	}
	backward := []byte{byte(v & lowSeven)}
	for v >>= 7; v > 0; v >>= 7 {
		v-- // a longer form begins where the shorter ones end, so that no number has two
		backward = append(backward, goesOn|byte(v&lowSeven))
	}
	slices.Reverse(backward)
	return append(withRoom(b, len(backward)), backward...)
}

// Offset answers the number at b's front that PutOffset writes, and how many bytes it has.
func Offset(b []byte) (v, n int, err api.Errno) {
	for i, c := range front(b, maxOffset) {
		if i > 0 {
			v = (v + 1) << 7
		}
		v |= int(c & lowSeven)
		if c < goesOn {
			return v, i + 1, api.OK
		}
	}
	return 0, 0, unended(b, maxOffset)
}

func front(b []byte, most int) []byte { return b[:min(len(b), most)] }

// unended tells the fault of a number whose bytes all go on: as soon as the most bytes that it may have are there, it is too long, even if b ends behind them.
func unended(b []byte, most int) api.Errno {
	if len(b) < most {
		return api.ErrShort
	}
	return api.ErrLong
}
