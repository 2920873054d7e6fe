package idx_test

import (
	"bytes"
	"crypto/sha1"
	"encoding/binary"
	"math"
	"slices"
	"testing"

	"trove/api"
	"trove/idx"
)

// sealed answers b and its sum behind it.
func sealed(b []byte) []byte {
	id := sha1.Sum(b)
	return slices.Concat(b, id[:])
}

// resealed answers b with its last twenty bytes made right.
func resealed(b []byte) []byte { return sealed(b[:len(b)-20]) }

// set answers b with the number v of four bytes at a place, and the sum made right.
func set(b []byte, at int, v uint32) []byte {
	out := bytes.Clone(b)
	binary.BigEndian.PutUint32(out[at:], v)
	return resealed(out)
}

// laid answers the bytes of rows as they stand, whether they may be or not: from the place far on a place has eight bytes.
func laid(rows []idx.Row, trailer api.ID, far int) []byte {
	b := []byte{0xFF, 0x74, 0x4F, 0x63, 0, 0, 0, 2}
	for first := range 256 {
		n := 0
		for _, r := range rows {
			if int(r.ID[0]) <= first {
				n++
			}
		}
		b = binary.BigEndian.AppendUint32(b, uint32(n))
	}
	for _, r := range rows {
		b = append(b, r.ID[:]...)
	}
	for _, r := range rows {
		b = binary.BigEndian.AppendUint32(b, r.Crc)
	}
	var long []byte
	for _, r := range rows {
		v := uint32(r.At)
		if r.At >= far {
			v = 0x80000000 + uint32(len(long)/8)
			long = binary.BigEndian.AppendUint64(long, uint64(r.At))
		}
		b = binary.BigEndian.AppendUint32(b, v)
	}
	return sealed(slices.Concat(b, long, trailer[:]))
}

func byID(a, b idx.Row) int { return bytes.Compare(a.ID[:], b.ID[:]) }

func sorted(rows []idx.Row) []idx.Row { return slices.SortedFunc(slices.Values(rows), byID) }

func slowBuild(rows []idx.Row, trailer api.ID) ([]byte, api.Errno) {
	for i, r := range rows {
		if r.At < 0 || r.At > 1099511627776 {
			return nil, api.ErrArg
		}
		for _, other := range rows[:i] {
			if other.ID == r.ID {
				return nil, api.ErrArg
			}
		}
	}
	if len(rows) > 512 {
		return nil, api.ErrLong
	}
	return laid(sorted(rows), trailer, 2147483648), api.OK
}

// slowOpen asks one thing after the other of the bytes where they stand, and makes none anew.
func slowOpen(b []byte) ([]idx.Row, api.ID, api.Errno) {
	if len(b) > 262144 {
		return nil, api.ID{}, api.ErrLong
	}
	if len(b) < 1072 {
		return nil, api.ID{}, api.ErrShort
	}
	if !bytes.Equal(b[:8], []byte{255, 't', 'O', 'c', 0, 0, 0, 2}) {
		return nil, api.ID{}, api.ErrForm
	}
	if !bytes.Equal(resealed(b), b) {
		return nil, api.ID{}, api.ErrSum
	}
	four := func(at int) int { return int(binary.BigEndian.Uint32(b[at:])) }
	n := four(8 + 4*255)
	if n > 512 {
		return nil, api.ID{}, api.ErrLong
	}
	long := 1032 + 28*n // where the places of eight bytes begin
	if len(b) < long+40 || len(b)%4 != 0 {
		return nil, api.ID{}, api.ErrForm
	}
	rows := make([]idx.Row, n)
	for i := range rows {
		rows[i] = idx.Row{ID: api.ID(b[1032+20*i:]), Crc: uint32(four(1032 + 20*n + 4*i)), At: four(1032 + 24*n + 4*i)}
		if rows[i].At < 2147483648 {
			continue
		}
		if long+8 > len(b)-40 || rows[i].At-2147483648 != (long-1032-28*n)/8 {
			return nil, api.ID{}, api.ErrForm
		}
		v := binary.BigEndian.Uint64(b[long:])
		if v < 2147483648 || v > 1099511627776 {
			return nil, api.ID{}, api.ErrForm
		}
		rows[i].At = int(v)
		long += 8
	}
	if long != len(b)-40 || !rising(rows) || !bytes.Equal(b[8:1032], laid(rows, api.ID{}, math.MaxInt)[8:1032]) {
		return nil, api.ID{}, api.ErrForm
	}
	return rows, api.ID(b[long:]), api.OK
}

func rising(rows []idx.Row) bool {
	for i := range rows {
		if i > 0 && byID(rows[i-1], rows[i]) >= 0 {
			return false
		}
	}
	return true
}

// checkOpen holds all that Open tells of b against the slow model.
func checkOpen(t testing.TB, b []byte) api.Errno {
	t.Helper()
	rows, trailer, want := slowOpen(b)
	x, err := idx.Open(b)
	if err != want || (x == nil) != (err != api.OK) {
		t.Fatalf("Open(%d bytes): %v, %v, not %v", len(b), x, err, want)
	}
	if err == api.OK {
		checkIndex(t, x, rows, trailer)
	}
	return err
}

// checkIndex demands that x tells just these rows, which are in order.
func checkIndex(t testing.TB, x *idx.Index, rows []idx.Row, trailer api.ID) {
	t.Helper()
	ids := x.IDs()
	if x.Len() != len(rows) || x.Trailer() != trailer || len(ids) != len(rows) {
		t.Fatalf("%d rows, %x, %d names, not %d, %x", x.Len(), x.Trailer(), len(ids), len(rows), trailer)
	}
	asked := map[api.ID]int{{}: -1, ff(): -1}
	for i, want := range rows {
		if r, is := x.Row(i); !is || r != want || ids[i] != want.ID {
			t.Fatalf("Row(%d): %+v, %v, not %+v; %x", i, r, is, want, ids[i])
		}
		for at := range want.ID {
			for _, by := range []byte{1, 255} {
				id := want.ID
				id[at] += by
				asked[id] = -1
			}
		}
	}
	for i, r := range rows {
		asked[r.ID] = i
	}
	for id, i := range asked {
		want := idx.Row{}
		if i >= 0 {
			want = rows[i]
		}
		if r, is := x.Find(id); is != (i >= 0) || r != want {
			t.Fatalf("Find(%x): %+v, %v, not %+v", id, r, is, want)
		}
	}
	for _, i := range []int{math.MinInt, -1, len(rows), len(rows) + 1, 256, 512, 1 << 32, math.MaxInt} {
		want := idx.Row{}
		if i >= 0 && i < len(rows) {
			want = rows[i]
		}
		if r, is := x.Row(i); is != (i >= 0 && i < len(rows)) || r != want {
			t.Fatalf("Row(%d) of %d: %+v, %v", i, len(rows), r, is)
		}
	}
}

func ff() api.ID { return api.ID(bytes.Repeat([]byte{255}, 20)) }

// checkBuild holds Build of rows against the slow model, and has what it made read again.
func checkBuild(t testing.TB, rows []idx.Row, trailer api.ID) ([]byte, api.Errno) {
	t.Helper()
	want, wantErr := slowBuild(rows, trailer)
	was := slices.Clone(rows)
	b, err := idx.Build(rows, trailer)
	if err != wantErr || !bytes.Equal(b, want) {
		t.Fatalf("Build(%+v): %x, %v, not %x, %v", rows, b, err, want, wantErr)
	}
	if !slices.Equal(rows, was) {
		t.Fatalf("Build changed %+v to %+v", was, rows)
	}
	if err == api.OK {
		if err := checkOpen(t, b); err != api.OK {
			t.Fatalf("Open of Build(%+v): %v", rows, err)
		}
	}
	return b, err
}
