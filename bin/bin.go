// Package bin: numbers as bytes. See doc/01-bin.md.
package bin

import (
	"bytes"
	"math"

	"trove/api"
)

// Put16 answers b, and the lowest 16 bits of v behind it, the highest byte first.
func Put16(b []byte, v int) []byte { return put(b, v, 2) }

// Put32 answers b, and the lowest 32 bits of v behind it, the highest byte first.
func Put32(b []byte, v int) []byte { return put(b, v, 4) }

// Put64 answers b, and the 64 bits of v behind it, the highest byte first.
func Put64(b []byte, v int) []byte { return put(b, v, 8) }

func put(b []byte, v, size int) []byte {
	out := withRoom(b, size)
	for shift := 8 * (size - 1); shift >= 0; shift -= 8 {
		out = append(out, byte(v>>shift))
	}
	return out
}

// withRoom copies b, since an append to b itself could write into spare room that is its owner's.
func withRoom(b []byte, more int) []byte {
	return append(make([]byte, 0, len(b)+more), b...)
}

// Reader takes numbers and bytes one after the other; its first fault stays.
type Reader struct {
	b   []byte
	at  int
	err api.Errno
}

// New answers a reader of b, as b is now.
func New(b []byte) *Reader { return &Reader{b: bytes.Clone(b)} }

// U8 takes a number of one byte.
func (r *Reader) U8() int { return int(number(r.take(1))) }

// U16 takes a number of two bytes.
func (r *Reader) U16() int { return int(number(r.take(2))) }

// U32 takes a number of four bytes.
func (r *Reader) U32() int { return int(number(r.take(4))) }

// U64 takes a number of eight bytes; one that no int holds is not taken.
func (r *Reader) U64() int {
	from := r.at
	v := number(r.take(8))
	if v > math.MaxInt64 {
		r.at, r.err = from, api.ErrLong
		return 0
	}
	return int(v)
}

// Bytes takes n bytes.
func (r *Reader) Bytes(n int) []byte { return bytes.Clone(r.take(n)) }

// Left tells how many bytes are left, 0 behind a fault.
func (r *Reader) Left() int {
	if r.err != api.OK {
		return 0
	}
	return len(r.b) - r.at
}

// At tells how many bytes were taken.
func (r *Reader) At() int { return r.at }

// Err tells the first fault.
func (r *Reader) Err() api.Errno { return r.err }

// take answers a piece of the reader's own bytes: it is for looking at, not for handing out.
func (r *Reader) take(n int) []byte {
	if r.err != api.OK {
		return nil
	}
	if n < 0 || n > r.Left() {
		r.err = api.ErrShort
		return nil
	}
	r.at += n
	return r.b[r.at-n : r.at]
}

// number is 0 of no bytes, so that what could not be taken is zero.
func number(b []byte) uint64 {
	var v uint64
	for _, c := range b {
		v = v<<8 | uint64(c)
	}
	return v
}
