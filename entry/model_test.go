package entry_test

import (
	"bytes"
	"compress/zlib"
	"hash/crc32"
	"io"
	"math/rand"
	"slices"
	"testing"

	"trove/api"
	"trove/entry"
	own "trove/zlib"
)

// sameEntry: an empty list of bytes and none are the same.
func sameEntry(a, b entry.Entry) bool {
	return a.Kind == b.Kind && a.Size == b.Size && a.Back == b.Back && a.Base == b.Base &&
		bytes.Equal(a.Data, b.Data) && a.At == b.At && a.Len == b.Len && a.Crc == b.Crc
}

// slowEnd answers where the number of at most so many bytes at b's front ends.
func slowEnd(b []byte, most int) (n int, err api.Errno) {
	n = 1 + slices.IndexFunc(b, func(c byte) bool { return c < 0x80 })
	switch {
	case n > most || n == 0 && len(b) >= most:
		return 0, api.ErrLong
	case n == 0:
		return 0, api.ErrShort
	}
	return n, api.OK
}

func slowHead(b []byte) (kind, size, n int, err api.Errno) {
	if n, err = slowEnd(b, 8); err != api.OK {
		return 0, 0, 0, err
	}
	for k := n - 1; k > 0; k-- {
		size = size*128 + int(b[k]%128)
	}
	return int(b[0]) / 16 % 8, size*16 + int(b[0])%16, n, api.OK
}

// slowPutHead answers the shortest head.
func slowPutHead(kind, size int) []byte {
	b := []byte{byte(kind*16 + size%16)}
	for size /= 16; size > 0; size /= 128 {
		b[len(b)-1] += 128
		b = append(b, byte(size%128))
	}
	return b
}

// slowOffset counts the numbers whose forms are shorter, and those of the same length that go ahead.
func slowOffset(b []byte) (v, n int, err api.Errno) {
	if n, err = slowEnd(b, 8); err != api.OK {
		return 0, 0, err
	}
	shorter := 0
	for k := range n {
		v = v*128 + int(b[k]%128)
		if k > 0 {
			shorter = shorter*128 + 128
		}
	}
	return v + shorter, n, api.OK
}

func slowPutOffset(v int) []byte {
	n, all := 1, 128
	for v >= all {
		v -= all
		n, all = n+1, all*128
	}
	b := make([]byte, n)
	for k := n - 1; k >= 0; k-- {
		b[k] = byte(v%128 + 128)
		v /= 128
	}
	b[n-1] -= 128
	return b
}

// slowRead asks one thing after the other, in the order of P1402. What is packed it leaves to the layer below, whose errors these are.
func slowRead(b []byte, at int) (entry.Entry, api.Errno) {
	if at < 0 || at > len(b) {
		return entry.Entry{}, api.ErrArg
	}
	rest := b[at:]
	kind, size, n, err := slowHead(rest)
	if err != api.OK {
		return entry.Entry{}, err
	}
	rest = rest[n:]
	e := entry.Entry{Kind: kind, Size: size, At: at}
	if kind == 0 || kind == 5 {
		return entry.Entry{}, api.ErrForm
	}
	if kind == 6 {
		if e.Back, n, err = slowOffset(rest); err != api.OK {
			return entry.Entry{}, err
		}
		if e.Back < 1 || e.Back > at {
			return entry.Entry{}, api.ErrForm
		}
		rest = rest[n:]
	}
	if kind == 7 {
		if len(rest) < 20 {
			return entry.Entry{}, api.ErrShort
		}
		e.Base = api.ID(rest[:20])
		rest = rest[20:]
	}
	if size > 16384 {
		return entry.Entry{}, api.ErrLong
	}
	if e.Data, n, err = own.Unpack(rest, size); err != api.OK {
		return entry.Entry{}, err
	}
	if len(e.Data) != size {
		return entry.Entry{}, api.ErrForm
	}
	e.Len = len(b) - at - len(rest) + n
	e.Crc = crc32.ChecksumIEEE(b[at : at+e.Len])
	return e, api.OK
}

func checkHead(t *testing.T, b []byte) {
	t.Helper()
	kind, size, n, err := entry.Head(b)
	if k, s, m, e := slowHead(b); kind != k || size != s || n != m || err != e {
		t.Fatalf("Head(%x): %d, %d, %d, %v, not %d, %d, %d, %v", b, kind, size, n, err, k, s, m, e)
	}
}

func checkRead(t *testing.T, b []byte, at int) {
	t.Helper()
	e, err := entry.Read(b, at)
	if x, want := slowRead(b, at); !sameEntry(e, x) || err != want {
		t.Fatalf("Read(%x, %d): %+v, %v, not %+v, %v", b, at, e, err, x, want)
	}
}

// inflated answers what the library's reader makes of z, and how many bytes of z it leaves.
func inflated(t *testing.T, z []byte) (b []byte, left int) {
	t.Helper()
	in := bytes.NewReader(z)
	r, err := zlib.NewReader(in)
	if err != nil {
		t.Fatalf("%x: %v", z, err)
	}
	if b, err = io.ReadAll(r); err != nil {
		t.Fatalf("%x: %v", z, err)
	}
	return b, in.Len()
}

// checkWrite holds Write of what may be against the form of an entry, has Read tell it again at the least place where it may stand, and answers its bytes.
func checkWrite(t *testing.T, e entry.Entry, effort int) []byte {
	t.Helper()
	b, err := entry.Write(e, effort)
	if err != api.OK {
		t.Fatalf("Write(%d, %d, %d bytes, %d): %v", e.Kind, e.Back, len(e.Data), effort, err)
	}
	want := entry.Entry{Kind: e.Kind, Size: len(e.Data), Data: e.Data, Len: len(b), Crc: crc32.ChecksumIEEE(b)}
	front := slowPutHead(e.Kind, len(e.Data))
	switch e.Kind {
	case 6:
		front = append(front, slowPutOffset(e.Back)...)
		want.Back, want.At = e.Back, e.Back
	case 7:
		front = append(front, e.Base[:]...)
		want.Base = e.Base
	}
	if !bytes.HasPrefix(b, front) {
		t.Fatalf("Write(%d, %d, %d bytes, %d): %x does not begin with %x", e.Kind, e.Back, len(e.Data), effort, b, front)
	}
	if data, left := inflated(t, b[len(front):]); !bytes.Equal(data, e.Data) || left != 0 {
		t.Fatalf("Write(%d, %d, %d bytes, %d): %d bytes are packed, and %d behind them", e.Kind, e.Back, len(e.Data), effort, len(data), left)
	}
	for _, behind := range [][]byte{nil, {0}, {0xFF, 0xFF, 0xFF}} {
		whole := slices.Concat(make([]byte, want.At), b, behind)
		if x, err := entry.Read(whole, want.At); !sameEntry(x, want) || err != api.OK {
			t.Fatalf("Read(Write(%d, %d, %d bytes, %d)): %+v, %v, not %+v", e.Kind, e.Back, len(e.Data), effort, x, err, want)
		}
	}
	return b
}

// noise: random bytes of so many letters.
func noise(random *rand.Rand, n, letters int) []byte {
	b := make([]byte, n)
	for k := range b {
		b[k] = byte(random.Intn(letters))
	}
	return b
}

// spoil writes over a list and its spare room.
func spoil(b []byte) {
	for k := range b[:cap(b)] {
		b[:cap(b)][k] = '#'
	}
}
