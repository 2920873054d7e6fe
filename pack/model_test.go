package pack_test

import (
	"bytes"
	"crypto/sha1"
	"encoding/binary"
	"encoding/hex"
	"math/rand"
	"slices"
	"testing"

	"trove/api"
	"trove/entry"
	"trove/pack"
)

// sameEntry: an empty list of bytes and none are the same.
func sameEntry(a, b entry.Entry) bool {
	return a.Kind == b.Kind && a.Size == b.Size && a.Back == b.Back && a.Base == b.Base &&
		bytes.Equal(a.Data, b.Data) && a.At == b.At && a.Len == b.Len && a.Crc == b.Crc
}

func sameEntries(a, b []entry.Entry) bool { return slices.EqualFunc(a, b, sameEntry) }

// sealed answers b and its sum behind it.
func sealed(b []byte) []byte {
	id := sha1.Sum(b)
	return slices.Concat(b, id[:])
}

// resealed answers b with its last twenty bytes made right.
func resealed(b []byte) []byte { return sealed(b[:len(b)-20]) }

// raw answers a pack that says it has so many entries, whatever the pieces are.
func raw(count uint32, pieces ...[]byte) []byte {
	front := binary.BigEndian.AppendUint32([]byte("PACK\x00\x00\x00\x02"), count)
	return sealed(slices.Concat(front, slices.Concat(pieces...)))
}

// piece answers the bytes of an entry, of which Back is in bytes.
func piece(t testing.TB, e entry.Entry, effort int) []byte {
	t.Helper()
	b, err := entry.Write(e, effort)
	if err != api.OK {
		t.Fatalf("entry.Write(%d, %d, %d bytes): %v", e.Kind, e.Back, len(e.Data), err)
	}
	return b
}

// slowRead asks one thing after the other, in the order of P1501. Each entry it leaves to the layer below, whose errors these are.
func slowRead(b []byte) ([]entry.Entry, api.Errno) {
	if len(b) > 131072 {
		return nil, api.ErrLong
	}
	if len(b) < 32 {
		return nil, api.ErrShort
	}
	if !bytes.Equal(b[:8], []byte{'P', 'A', 'C', 'K', 0, 0, 0, 2}) {
		return nil, api.ErrForm
	}
	if !bytes.Equal(resealed(b), b) {
		return nil, api.ErrSum
	}
	if binary.BigEndian.Uint32(b[8:]) > 512 {
		return nil, api.ErrLong
	}
	body := b[:len(b)-20]
	l := make([]entry.Entry, binary.BigEndian.Uint32(b[8:]))
	at, begins := 12, map[int]bool{}
	for i := range l {
		e, err := entry.Read(body, at)
		if err != api.OK {
			return nil, err
		}
		l[i], begins[at] = e, true
		at += e.Len
	}
	if at != len(body) {
		return nil, api.ErrForm
	}
	for _, e := range l {
		if e.Kind == 6 && !begins[e.At-e.Back] {
			return nil, api.ErrForm
		}
	}
	return l, api.OK
}

// checkIter holds Iter of b against l: all of it, left early and late, and all of it again.
func checkIter(t *testing.T, b []byte, l []entry.Entry) {
	t.Helper()
	seq := pack.Iter(b)
	for _, stop := range []int{len(l) + 1, 1, len(l), len(l)/2 + 1, len(l) + 1} {
		n := 0
		for place, e := range seq {
			if place != n || n >= len(l) || !sameEntry(e, l[n]) {
				t.Fatalf("Iter(%x): %d, %+v at %d of %d", b, place, e, n, len(l))
			}
			if n++; n == stop {
				break
			}
		}
		if n != min(stop, len(l)) {
			t.Fatalf("Iter(%x): %d entries, not %d", b, n, min(stop, len(l)))
		}
	}
}

func checkRead(t *testing.T, b []byte) {
	t.Helper()
	l, err := pack.Read(b)
	want, wantErr := slowRead(b)
	if !sameEntries(l, want) || err != wantErr {
		t.Fatalf("Read(%x): %+v, %v, not %+v, %v", b, l, err, want, wantErr)
	}
	checkIter(t, b, want)
}

// wrong demands that Read answers this error of b, and Iter none.
func wrong(t *testing.T, what string, b []byte, want api.Errno) {
	t.Helper()
	if l, err := pack.Read(b); len(l) != 0 || err != want {
		t.Errorf("%s: %d entries, %v, not %v", what, len(l), err, want)
	}
	for place := range pack.Iter(b) {
		t.Errorf("%s: Iter has %d", what, place)
	}
	checkRead(t, b)
}

// inEntries answers l with the Back of each Ofs in entries.
func inEntries(l []entry.Entry) []entry.Entry {
	l = slices.Clone(l)
	for i, e := range l {
		if e.Kind == entry.Ofs {
			l[i].Back = i - slices.IndexFunc(l, func(x entry.Entry) bool { return x.At == e.At-e.Back })
		}
	}
	return l
}

// checkWrite holds Write of what may be against a pack put together piece by piece, has the readers tell it again, and answers its bytes.
func checkWrite(t *testing.T, l []entry.Entry, effort int) []byte {
	t.Helper()
	b, at, err := pack.Write(l, effort)
	if err != api.OK || len(at) != len(l) {
		t.Fatalf("Write(%d entries, %d): %d places, %v", len(l), effort, len(at), err)
	}
	var want []entry.Entry
	var pieces [][]byte
	next := 12
	for i, e := range l {
		e = entry.Entry{Kind: e.Kind, Back: e.Back, Base: e.Base, Data: e.Data, Size: len(e.Data), At: next}
		if at[i] != next {
			t.Fatalf("Write(%d entries, %d): the places %v, but %d is at %d", len(l), effort, at, i, next)
		}
		if e.Kind == entry.Ofs {
			e.Back = next - at[i-e.Back]
		} else {
			e.Back = 0
		}
		if e.Kind != entry.Ref {
			e.Base = api.ID{}
		}
		p := piece(t, e, effort)
		pieces = append(pieces, p)
		next += len(p)
		read, _ := entry.Read(slices.Concat(make([]byte, e.At), p), e.At)
		e.Len, e.Crc = len(p), read.Crc
		want = append(want, e)
	}
	if !bytes.Equal(b, raw(uint32(len(l)), pieces...)) {
		t.Fatalf("Write(%d entries, %d): %x, not %x", len(l), effort, b, raw(uint32(len(l)), pieces...))
	}
	if x, err := pack.Read(b); !sameEntries(x, want) || err != api.OK {
		t.Fatalf("Read(Write(%d entries, %d)): %+v, %v, not %+v", len(l), effort, x, err, want)
	}
	checkIter(t, b, want)
	checkNames(t, b)
	return b
}

// checkNames holds Trailer and Name of b against its last twenty bytes.
func checkNames(t *testing.T, b []byte) {
	t.Helper()
	id, err := pack.Trailer(b)
	name, err2 := pack.Name(b)
	if len(b) < 20 {
		if id != (api.ID{}) || err != api.ErrShort || name != "" || err2 != api.ErrShort {
			t.Fatalf("of %x: %x, %v; %s, %v", b, id, err, name, err2)
		}
		return
	}
	end := b[len(b)-20:]
	if !bytes.Equal(id[:], end) || err != api.OK || name != "pack-"+hex.EncodeToString(end) || err2 != api.OK {
		t.Fatalf("of %x: %x, %v; %s, %v", b, id, err, name, err2)
	}
}

// noise: random bytes of so many letters.
func noise(random *rand.Rand, n, letters int) []byte {
	b := make([]byte, n)
	for k := range b {
		b[k] = byte(random.Intn(letters))
	}
	return b
}

// spoil writes over a list and its spare room.
func spoil(b []byte) {
	for k := range b[:cap(b)] {
		b[:cap(b)][k] = '#'
	}
}
