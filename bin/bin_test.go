package bin_test

import (
	"bytes"
	"encoding/binary"
	"math"
	"testing"

	"trove/api"
	"trove/bin"
)

// someInts: small ones, all powers of two with their neighbours, and the same below 0.
func someInts() []int {
	l := []int{math.MinInt, math.MaxInt, 0x0102030405060708, -0x0102030405060708}
	for k := range 63 {
		for d := -1; d <= 1; d++ {
			l = append(l, 1<<k+d, -(1<<k)-d)
		}
	}
	return l
}

type putter struct {
	name string
	put  func(b []byte, v int) []byte
}

func putters() []putter {
	return []putter{{"Put16", bin.Put16}, {"Put32", bin.Put32}, {"Put64", bin.Put64}, {"PutSize", bin.PutSize}, {"PutOffset", bin.PutOffset}}
}

func TestP101Put(t *testing.T) {
	for _, b := range [][]byte{nil, {}, {7}, {1, 2, 3}} {
		for _, v := range someInts() {
			if x, want := bin.Put16(b, v), binary.BigEndian.AppendUint16(bytes.Clone(b), uint16(v)); !bytes.Equal(x, want) {
				t.Errorf("Put16(%v, %d): %v, not %v", b, v, x, want)
			}
			if x, want := bin.Put32(b, v), binary.BigEndian.AppendUint32(bytes.Clone(b), uint32(v)); !bytes.Equal(x, want) {
				t.Errorf("Put32(%v, %d): %v, not %v", b, v, x, want)
			}
			if x, want := bin.Put64(b, v), binary.BigEndian.AppendUint64(bytes.Clone(b), uint64(v)); !bytes.Equal(x, want) {
				t.Errorf("Put64(%v, %d): %v, not %v", b, v, x, want)
			}
		}
	}
}

func TestP101Numbers(t *testing.T) {
	b := []byte{0xFE, 0x81, 2, 0x83, 4, 5, 6, 0x7F, 0xFF, 0xFF, 0xFF, 0xFF, 0xFF, 0xFF, 0xFF, 1, 2, 3}
	r := bin.New(b)
	at := 0
	step := func(what string, got, want, n int) {
		t.Helper()
		at += n
		if got != want || r.At() != at || r.Left() != len(b)-at || r.Err() != api.OK {
			t.Errorf("%s: %d (not %d), at %d, left %d, %v", what, got, want, r.At(), r.Left(), r.Err())
		}
	}
	step("New", 0, 0, 0)
	step("U8", r.U8(), 0xFE, 1)
	step("U16", r.U16(), 0x8102, 2)
	step("U32", r.U32(), 0x83040506, 4)
	step("U64", r.U64(), math.MaxInt64, 8)
	step("Bytes(0)", len(r.Bytes(0)), 0, 0)
	x := r.Bytes(2)
	step("Bytes(2)", len(x), 2, 2)
	if !bytes.Equal(x, []byte{1, 2}) {
		t.Errorf("Bytes(2): %v", x)
	}
	step("U8", r.U8(), 3, 1)
	step("Bytes(0) at the end", len(r.Bytes(0)), 0, 0)
}

func TestP101RoundTrip(t *testing.T) {
	for _, v := range someInts() {
		r := bin.New(bin.Put64(bin.Put32(bin.Put16(nil, v), v), v))
		if x := r.U16(); x != int(uint16(v)) {
			t.Errorf("U16 of %d: %d", v, x)
		}
		if x := r.U32(); x != int(uint32(v)) {
			t.Errorf("U32 of %d: %d", v, x)
		}
		x, err := r.U64(), r.Err()
		if v >= 0 && (x != v || err != api.OK || r.At() != 14) {
			t.Errorf("U64 of %d: %d, %v", v, x, err)
		}
		if v < 0 && (x != 0 || err != api.ErrLong || r.At() != 6) {
			t.Errorf("U64 of %d: %d, %v", v, x, err)
		}
	}
}

type taker struct {
	name string
	size int
	take func(r *bin.Reader) int
}

func takers() []taker {
	return []taker{
		{"U8", 1, (*bin.Reader).U8},
		{"U16", 2, (*bin.Reader).U16},
		{"U32", 4, (*bin.Reader).U32},
		{"U64", 8, (*bin.Reader).U64},
		{"Bytes(5)", 5, func(r *bin.Reader) int { return len(r.Bytes(5)) }},
		{"Bytes(-1)", math.MaxInt, func(r *bin.Reader) int { return len(r.Bytes(-1)) }},
		{"Bytes(least)", math.MaxInt, func(r *bin.Reader) int { return len(r.Bytes(math.MinInt)) }},
		{"Bytes(greatest)", math.MaxInt, func(r *bin.Reader) int { return len(r.Bytes(math.MaxInt)) }},
	}
}

// faulty: everything that is asked of r behind its fault is zero, and the fault stays.
func faulty(t *testing.T, what string, r *bin.Reader, at int, err api.Errno) {
	t.Helper()
	for _, k := range append(takers(), taker{"Bytes(0)", 0, func(r *bin.Reader) int { return len(r.Bytes(0)) }}, taker{"Bytes(1)", 1, func(r *bin.Reader) int { return len(r.Bytes(1)) }}) {
		if r.Err() != err || r.Left() != 0 || r.At() != at {
			t.Errorf("%s, ahead of %s: %v, left %d, at %d", what, k.name, r.Err(), r.Left(), r.At())
		}
		if x := k.take(r); x != 0 {
			t.Errorf("%s: behind the fault %s took %d", what, k.name, x)
		}
	}
	if r.Err() != err || r.Left() != 0 || r.At() != at {
		t.Errorf("%s: %v, left %d, at %d", what, r.Err(), r.Left(), r.At())
	}
}

func TestP101Short(t *testing.T) {
	full := bytes.Repeat([]byte{0xFF}, 16)
	for _, k := range takers() {
		for skip := range 4 {
			for left := 0; left < k.size && skip+left <= len(full); left++ {
				r := bin.New(full[:skip+left])
				r.Bytes(skip)
				if x := k.take(r); x != 0 {
					t.Errorf("%s of %d bytes: %d", k.name, left, x)
				}
				faulty(t, k.name, r, skip, api.ErrShort)
			}
		}
	}
}

func TestP101Long(t *testing.T) {
	for _, first := range []byte{0x80, 0x81, 0xFF} {
		b := append([]byte{1, 2, first}, make([]byte, 20)...)
		r := bin.New(b)
		r.U16()
		if x := r.U64(); x != 0 {
			t.Errorf("U64 from %#x on: %d", first, x)
		}
		faulty(t, "U64 above the greatest int", r, 2, api.ErrLong)
	}
}

func TestP2Reader(t *testing.T) {
	b := []byte{1, 2, 3, 4, 5, 6}
	r := bin.New(b[:4])
	b[1], b[3] = 77, 77
	x := r.Bytes(2)
	if !bytes.Equal(x, []byte{1, 2}) {
		t.Errorf("a reader keeps what it was handed: %v", x)
	}
	x = append(x, 88, 88)
	x[0] = 88
	if y := r.Bytes(2); !bytes.Equal(y, []byte{3, 4}) {
		t.Errorf("an answer shares memory with its reader: %v", y)
	}
	if !bytes.Equal(b, []byte{1, 77, 3, 77, 5, 6}) {
		t.Errorf("a reader changed what it was handed: %v", b)
	}
	r = bin.New(b[:2])
	if r.Bytes(3); r.Err() != api.ErrShort {
		t.Errorf("a reader took spare room: %v", r.Err())
	}
}

// TestP2Put: neither b nor the room behind it is changed, and no two answers share memory.
func TestP2Put(t *testing.T) {
	for _, p := range putters() {
		for _, v := range []int{-1, 0, 1, 128, 1 << 30, math.MaxInt} {
			whole := bytes.Repeat([]byte{0xAA}, 40)
			b := whole[:5]
			x, y := p.put(b, v), p.put(b, v)
			was := bytes.Clone(y)
			if !bytes.Equal(whole, bytes.Repeat([]byte{0xAA}, 40)) {
				t.Errorf("%s(b, %d) changed what it was handed", p.name, v)
			}
			if !bytes.Equal(x[:5], b) {
				t.Errorf("%s(b, %d) does not begin with b: %v", p.name, v, x)
			}
			room := x[:cap(x)]
			for i := range room {
				room[i] = 0x55
			}
			if !bytes.Equal(whole, bytes.Repeat([]byte{0xAA}, 40)) || !bytes.Equal(y, was) {
				t.Errorf("%s(b, %d): the answer is not new memory", p.name, v)
			}
		}
	}
}
