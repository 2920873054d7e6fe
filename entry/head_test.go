package entry_test

import (
	"bytes"
	"math"
	"math/rand"
	"slices"
	"testing"

	"trove/api"
	"trove/entry"
)

func TestP1401Kinds(t *testing.T) {
	if entry.Ofs != 6 || entry.Ref != 7 {
		t.Errorf("%d, %d", entry.Ofs, entry.Ref)
	}
}

func TestP1401HeadByHand(t *testing.T) {
	on := func(n int) []byte { return bytes.Repeat([]byte{0xFF}, n) }
	for _, x := range []struct {
		b             []byte
		kind, size, n int
		err           api.Errno
	}{
		{[]byte{0x10}, 1, 0, 1, api.OK},
		{[]byte{0x3F}, 3, 15, 1, api.OK},
		{[]byte{0x7F, 0xFF}, 7, 15, 1, api.OK},
		{[]byte{0x00}, 0, 0, 1, api.OK}, // whatever kind it says
		{[]byte{0x5A}, 5, 10, 1, api.OK},
		{[]byte{0xB0, 1}, 3, 16, 2, api.OK},
		{[]byte{0x95, 10, 0x78}, 1, 165, 2, api.OK},
		{[]byte{0xAF, 0x7F}, 2, 2047, 2, api.OK},
		{[]byte{0xC0, 0x80, 1, 0x80}, 4, 2048, 3, api.OK},
		{[]byte{0xE1, 0x82, 3}, 6, 1 + 2<<4 + 3<<11, 3, api.OK},
		{[]byte{0x90, 0}, 1, 0, 2, api.OK}, // longer than need be
		{[]byte{0xB5, 0x80, 0x80, 0}, 3, 5, 4, api.OK},
		{[]byte{0xF0, 0x80, 0x80, 0x80, 0x80, 0x80, 0x80, 0}, 7, 0, 8, api.OK},
		{[]byte{0xF0, 0x80, 0x80, 0x80, 0x80, 0x80, 0x80, 1, 0}, 7, 1 << 46, 8, api.OK},
		{slices.Concat(on(7), []byte{0x7F}), 7, 1<<53 - 1, 8, api.OK},
		{nil, 0, 0, 0, api.ErrShort},
		{[]byte{}, 0, 0, 0, api.ErrShort},
		{[]byte{0x90}, 0, 0, 0, api.ErrShort},
		{[]byte{0x80, 0x80}, 0, 0, 0, api.ErrShort},
		{on(7), 0, 0, 0, api.ErrShort},
		{on(8), 0, 0, 0, api.ErrLong},
		{slices.Concat(on(8), []byte{0}), 0, 0, 0, api.ErrLong},
		{on(9), 0, 0, 0, api.ErrLong},
		{on(10), 0, 0, 0, api.ErrLong},
		{on(100), 0, 0, 0, api.ErrLong},
	} {
		if kind, size, n, err := entry.Head(x.b); kind != x.kind || size != x.size || n != x.n || err != x.err {
			t.Errorf("Head(%x): %d, %d, %d, %v", x.b, kind, size, n, err)
		}
		checkHead(t, x.b)
	}
}

func TestP1401PutHeadByHand(t *testing.T) {
	for _, x := range []struct {
		kind, size int
		want       []byte
	}{
		{1, 0, []byte{0x10}},
		{3, 15, []byte{0x3F}},
		{5, 1, []byte{0x51}}, // any kind that the bits hold, but 0
		{7, 15, []byte{0x7F}},
		{3, 16, []byte{0xB0, 1}},
		{1, 165, []byte{0x95, 10}},
		{2, 2047, []byte{0xAF, 0x7F}},
		{4, 2048, []byte{0xC0, 0x80, 1}},
		{6, 1<<18 - 1, []byte{0xEF, 0xFF, 0x7F}},
		{6, 1 << 18, []byte{0xE0, 0x80, 0x80, 1}},
		{7, 1<<40 - 1, []byte{0xFF, 0xFF, 0xFF, 0xFF, 0xFF, 0xFF, 1}},
		{7, 1 << 40, []byte{0xF0, 0x80, 0x80, 0x80, 0x80, 0x80, 2}},
	} {
		for _, b := range [][]byte{nil, {}, {9}, {0x80, 0xFF}} {
			if out, err := entry.PutHead(b, x.kind, x.size); !bytes.Equal(out, slices.Concat(b, x.want)) || err != api.OK {
				t.Errorf("PutHead(%x, %d, %d): %x, %v", b, x.kind, x.size, out, err)
			}
		}
	}
}

// someSizes: all powers of two up to the greatest size that may be put, with their neighbours, and small ones.
func someSizes() []int {
	l := []int{0, 1<<40 - 1, 1 << 40}
	for k := range 40 {
		l = append(l, 1<<k, 1<<k-1, 1<<k+1)
	}
	for v := range 5000 {
		l = append(l, v)
	}
	return l
}

func TestP1401HeadsToldAgain(t *testing.T) {
	for kind := 1; kind <= 7; kind++ {
		for _, size := range someSizes() {
			b, err := entry.PutHead(nil, kind, size)
			if !bytes.Equal(b, slowPutHead(kind, size)) || err != api.OK {
				t.Fatalf("PutHead(%d, %d): %x, %v", kind, size, b, err)
			}
			for _, behind := range [][]byte{nil, {0}, {0xFF}} {
				if k, s, n, err := entry.Head(slices.Concat(b, behind)); k != kind || s != size || n != len(b) || err != api.OK {
					t.Fatalf("Head(%x): %d, %d, %d, %v", b, k, s, n, err)
				}
			}
			for n := range b {
				if k, s, m, err := entry.Head(b[:n]); k != 0 || s != 0 || m != 0 || err != api.ErrShort {
					t.Fatalf("Head(%x): %d, %d, %d, %v", b[:n], k, s, m, err)
				}
			}
		}
	}
}

func TestP1401PutHeadWrong(t *testing.T) {
	for _, x := range [][2]int{
		{0, 1}, {8, 1}, {9, 1}, {-1, 1}, {16, 1}, {17, 1}, {257, 1}, {math.MinInt, 1}, {math.MaxInt, 1},
		{1, -1}, {1, -16}, {1, math.MinInt}, {1, 1<<40 + 1}, {7, 1 << 41}, {7, math.MaxInt},
		{0, 0}, {0, -1}, {8, 1<<40 + 1},
	} {
		for _, b := range [][]byte{nil, {9}} {
			if out, err := entry.PutHead(b, x[0], x[1]); len(out) != 0 || err != api.ErrArg {
				t.Errorf("PutHead(%x, %v): %x, %v", b, x, out, err)
			}
		}
	}
}

// TestP1401EveryHead: all heads of at most three bytes.
func TestP1401EveryHead(t *testing.T) {
	for a := range 256 {
		checkHead(t, []byte{byte(a)})
		for b := range 256 {
			checkHead(t, []byte{byte(a), byte(b)})
			for _, c := range []byte{0, 1, 0x7F, 0x80, 0x81, 0xFF} {
				checkHead(t, []byte{byte(a), byte(b), c})
			}
		}
	}
}

func TestP1401Random(t *testing.T) {
	random := rand.New(rand.NewSource(1401))
	for range 50000 {
		b := noise(random, random.Intn(12), 256)
		for k := range random.Intn(12) {
			if k < len(b) {
				b[k] |= 0x80
			}
		}
		checkHead(t, b)
	}
}

func FuzzP1401(f *testing.F) {
	f.Add([]byte{0x95, 10})
	f.Add([]byte{0xFF, 0xFF, 0xFF, 0xFF, 0xFF, 0xFF, 0xFF, 0xFF})
	f.Fuzz(func(t *testing.T, b []byte) { checkHead(t, b) })
}

// TestP2PutHead: neither b nor the room behind it is changed, and no two answers share memory.
func TestP2PutHead(t *testing.T) {
	for _, size := range []int{0, 15, 16, 5000, 1 << 40} {
		whole := bytes.Repeat([]byte{0xAA}, 40)
		was := bytes.Clone(whole)
		x, _ := entry.PutHead(whole[:5], 3, size)
		y, _ := entry.PutHead(whole[:5], 3, size)
		if !bytes.Equal(whole, was) {
			t.Errorf("PutHead(b, 3, %d) changed what it was handed", size)
		}
		spoil(x)
		if !bytes.Equal(whole, was) || !bytes.Equal(y, slices.Concat(was[:5], slowPutHead(3, size))) {
			t.Errorf("PutHead(b, 3, %d): the answer is not new memory", size)
		}
		spoil(whole)
		if !bytes.Equal(y[:5], was[:5]) {
			t.Errorf("PutHead(b, 3, %d) keeps what it was handed", size)
		}
	}
}

func TestP2Head(t *testing.T) {
	whole := []byte{0xB0, 0x81, 1, 1}
	if _, _, _, err := entry.Head(whole[:2]); err != api.ErrShort {
		t.Errorf("Head took spare room: %v", err)
	}
	if !bytes.Equal(whole, []byte{0xB0, 0x81, 1, 1}) {
		t.Errorf("Head changed what it was handed: %x", whole)
	}
}
