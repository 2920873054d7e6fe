package bin_test

import (
	"bytes"
	"encoding/binary"
	"math"
	"testing"

	"trove/api"
	"trove/bin"
)

type numberReader struct {
	name string
	most int
	read func(b []byte) (v, n int, err api.Errno)
}

func numberReaders() []numberReader {
	return []numberReader{{"Size", 9, bin.Size}, {"Offset", 8, bin.Offset}}
}

func TestP102PutSize(t *testing.T) {
	for _, b := range [][]byte{nil, {7}, {0x80, 0x80}} {
		for _, v := range someInts() {
			want := bytes.Clone(b)
			if v >= 0 {
				want = binary.AppendUvarint(want, uint64(v))
			}
			if x := bin.PutSize(b, v); !bytes.Equal(x, want) {
				t.Errorf("PutSize(%v, %d): %v, not %v", b, v, x, want)
			}
		}
	}
}

func TestP102Size(t *testing.T) {
	for _, c := range []struct {
		b    []byte
		v, n int
	}{
		{[]byte{0}, 0, 1},
		{[]byte{0x7F, 0x80}, 127, 1},
		{[]byte{0x80, 1, 1}, 128, 2},
		{[]byte{0x80, 0}, 0, 2},
		{[]byte{0xAC, 2}, 300, 2},
		{[]byte{0x80, 0x80, 0x80, 0}, 0, 4},
		{[]byte{0x80, 0x80, 0x80, 0x80, 0x80, 0x80, 0x80, 0x80, 0}, 0, 9},
		{[]byte{0x80, 0x80, 0x80, 0x80, 0x80, 0x80, 0x80, 0x80, 1, 0xFF}, 1 << 56, 9},
		{[]byte{0xFF, 0xFF, 0xFF, 0xFF, 0xFF, 0xFF, 0xFF, 0xFF, 0x7F}, math.MaxInt, 9},
	} {
		if v, n, err := bin.Size(c.b); v != c.v || n != c.n || err != api.OK {
			t.Errorf("Size(%v): %d, %d, %v", c.b, v, n, err)
		}
	}
	for _, v := range someInts() {
		if v < 0 {
			continue
		}
		b := bin.PutSize(nil, v)
		if x, n, err := bin.Size(append(b, 0x80, 1)); x != v || n != len(b) || err != api.OK {
			t.Errorf("Size(PutSize(%d)): %d, %d, %v", v, x, n, err)
		}
	}
}

func TestP102PutOffset(t *testing.T) {
	for _, c := range []struct {
		v int
		b []byte
	}{
		{0, []byte{0}},
		{1, []byte{1}},
		{127, []byte{0x7F}},
		{128, []byte{0x80, 0}},
		{255, []byte{0x80, 0x7F}},
		{256, []byte{0x81, 0}},
		{16511, []byte{0xFF, 0x7F}},
		{16512, []byte{0x80, 0x80, 0}},
		{16513, []byte{0x80, 0x80, 1}},
		{2113663, []byte{0xFF, 0xFF, 0x7F}},
		{2113664, []byte{0x80, 0x80, 0x80, 0}},
	} {
		if x := bin.PutOffset([]byte{7, 8}, c.v); !bytes.Equal(x, append([]byte{7, 8}, c.b...)) {
			t.Errorf("PutOffset(%d): %v, not %v behind 7, 8", c.v, x, c.b)
		}
	}
}

// firstOf: the least number whose offset has n bytes.
func firstOf(n int) int {
	v := 0
	for k := 1; k < n; k++ {
		v += 1 << (7 * k)
	}
	return v
}

func TestP102OffsetLengths(t *testing.T) {
	for n := 1; n <= 9; n++ {
		b := bin.PutOffset(nil, firstOf(n))
		if want := append(bytes.Repeat([]byte{0x80}, n-1), 0); !bytes.Equal(b, want) {
			t.Errorf("PutOffset(%d): %v, not %v", firstOf(n), b, want)
		}
		if n == 9 {
			break
		}
		last := firstOf(n+1) - 1
		b = bin.PutOffset(nil, last)
		if want := append(bytes.Repeat([]byte{0xFF}, n-1), 0x7F); !bytes.Equal(b, want) {
			t.Errorf("PutOffset(%d): %v, not %v", last, b, want)
		}
		if v, m, err := bin.Offset(append(b, 0)); v != last || m != n || err != api.OK {
			t.Errorf("Offset(%v): %d, %d, %v", b, v, m, err)
		}
	}
}

func TestP102Offset(t *testing.T) {
	for _, v := range someInts() {
		if v < 0 {
			continue
		}
		b := bin.PutOffset(nil, v)
		x, n, err := bin.Offset(append(b, 0x80, 1))
		if len(b) <= 8 && (x != v || n != len(b) || err != api.OK) {
			t.Errorf("Offset(PutOffset(%d)): %d, %d, %v", v, x, n, err)
		}
		if len(b) > 8 && (x != 0 || n != 0 || err != api.ErrLong) {
			t.Errorf("Offset(PutOffset(%d)), of %d bytes: %d, %d, %v", v, len(b), x, n, err)
		}
	}
}

// TestP102AllOffsets: each of the forms of at most two bytes is one number's, and that number's form is it.
func TestP102AllOffsets(t *testing.T) {
	for v := range firstOf(3) + 300 {
		b := bin.PutOffset(nil, v)
		if x, n, err := bin.Offset(b); x != v || n != len(b) || err != api.OK {
			t.Errorf("Offset(%v): %d, %d, %v", b, x, n, err)
		}
	}
}

func TestP102Unended(t *testing.T) {
	for _, k := range numberReaders() {
		for _, c := range []byte{0x80, 0x81, 0xFF} {
			for n := range 20 {
				b := bytes.Repeat([]byte{c}, n)
				want := api.ErrShort
				if n >= k.most {
					want = api.ErrLong
				}
				if v, m, err := k.read(b); v != 0 || m != 0 || err != want {
					t.Errorf("%s of %d times %#x: %d, %d, %v, not %v", k.name, n, c, v, m, err, want)
				}
				v, m, err := k.read(append(b, 0))
				if n < k.most && (m != n+1 || err != api.OK) || n >= k.most && (v != 0 || m != 0 || err != api.ErrLong) {
					t.Errorf("%s of %d times %#x and 0: %d, %d, %v", k.name, n, c, v, m, err)
				}
			}
		}
	}
	for _, k := range numberReaders() {
		if v, n, err := k.read(nil); v != 0 || n != 0 || err != api.ErrShort {
			t.Errorf("%s of nothing: %d, %d, %v", k.name, v, n, err)
		}
		room := []byte{0x80, 1}
		if v, n, err := k.read(room[:1]); v != 0 || n != 0 || err != api.ErrShort {
			t.Errorf("%s reads spare room: %d, %d, %v", k.name, v, n, err)
		}
	}
}

func TestP1Negative(t *testing.T) {
	for _, v := range someInts() {
		if v >= 0 {
			continue
		}
		if x := bin.PutSize([]byte{1, 2}, v); !bytes.Equal(x, []byte{1, 2}) {
			t.Errorf("PutSize(%d): %v", v, x)
		}
		if x := bin.PutOffset([]byte{1, 2}, v); !bytes.Equal(x, []byte{1, 2}) {
			t.Errorf("PutOffset(%d): %v", v, x)
		}
	}
}
