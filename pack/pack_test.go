package pack_test

import (
	"bytes"
	"encoding/binary"
	"math/rand"
	"slices"
	"testing"

	"trove/api"
	"trove/entry"
	"trove/pack"
)

func blob(s string) entry.Entry { return entry.Entry{Kind: api.Blob, Data: []byte(s)} }

// ofs: a delta whose base is so many entries (of Write), or bytes (of a piece), ahead.
func ofs(back int, s string) entry.Entry {
	return entry.Entry{Kind: entry.Ofs, Back: back, Data: []byte(s)}
}

func ref(first byte, s string) entry.Entry {
	return entry.Entry{Kind: entry.Ref, Base: api.ID{first, 2, 3}, Data: []byte(s)}
}

// fewEntries: one of each kind, and deltas on whole objects and on deltas.
func fewEntries() []entry.Entry {
	return []entry.Entry{
		{Kind: api.Commit, Data: []byte("a commit's bytes")}, {Kind: api.Tree}, blob("one"), {Kind: api.Tag, Data: []byte("t")},
		ofs(2, "delta"), ref(9, "x"), ofs(6, ""), ofs(1, "on a delta"), blob(""),
	}
}

// stored: "hi" in a stored block, as bytes that are written out.
func stored() []byte {
	return []byte{0x78, 0x01, 1, 2, 0, 0xFD, 0xFF, 'h', 'i', 0x01, 0x3B, 0x00, 0xD2}
}

// TestP1501ByHand: a pack whose every byte is written out.
func TestP1501ByHand(t *testing.T) {
	id := api.ID{1, 2, 3, 4, 5, 6, 7, 8, 9, 10, 11, 12, 13, 14, 15, 16, 17, 18, 19, 20}
	b := []byte{'P', 'A', 'C', 'K', 0, 0, 0, 2, 0, 0, 0, 3}
	b = slices.Concat(b, []byte{0x32}, stored())
	b = slices.Concat(b, []byte{0x62, 14}, stored())
	b = slices.Concat(b, []byte{0x72}, id[:], stored())
	b = sealed(b)
	checkRead(t, b)
	l, err := pack.Read(b)
	if err != api.OK || len(l) != 3 {
		t.Fatalf("%+v, %v", l, err)
	}
	for i, want := range []entry.Entry{
		{Kind: api.Blob, Size: 2, At: 12, Len: 14, Data: []byte("hi")},
		{Kind: entry.Ofs, Size: 2, At: 26, Len: 15, Data: []byte("hi"), Back: 14},
		{Kind: entry.Ref, Size: 2, At: 41, Len: 34, Data: []byte("hi"), Base: id},
	} {
		want.Crc = l[i].Crc
		if !sameEntry(l[i], want) {
			t.Errorf("%d: %+v, not %+v", i, l[i], want)
		}
	}
}

func TestP1501None(t *testing.T) {
	checkRead(t, raw(0))
	if l, err := pack.Read(raw(0)); len(l) != 0 || err != api.OK {
		t.Errorf("%+v, %v", l, err)
	}
	wrong(t, "nothing", nil, api.ErrShort)
	wrong(t, "no bytes", []byte{}, api.ErrShort)
	wrong(t, "one is said", raw(1), api.ErrShort)
	wrong(t, "a byte behind", raw(0, []byte{0}), api.ErrForm)
	wrong(t, "an entry behind", raw(0, piece(t, blob("one"), 1)), api.ErrForm)
}

// TestP1501Long: the bound of bytes, with all else right, and one more.
func TestP1501Long(t *testing.T) {
	random := rand.New(rand.NewSource(1501))
	var pieces [][]byte
	for range 7 {
		pieces = append(pieces, piece(t, blob(string(noise(random, 16384, 256))), 0))
	}
	left := api.MaxPack - len(raw(7, pieces...)) - 3 - 11
	whole := raw(8, append(pieces, piece(t, blob(string(noise(random, left, 256))), 0))...)
	if len(whole) != api.MaxPack {
		t.Fatalf("%d bytes", len(whole))
	}
	if l, err := pack.Read(whole); len(l) != 8 || err != api.OK {
		t.Errorf("%d entries, %v", len(l), err)
	}
	checkRead(t, whole)
	wrong(t, "one byte more", raw(8, append(pieces, piece(t, blob(string(noise(random, left+1, 256))), 0))...), api.ErrLong)
	wrong(t, "zeros", make([]byte, api.MaxPack+1), api.ErrLong)
	wrong(t, "zeros", make([]byte, api.MaxPack), api.ErrForm)
	wrong(t, "a byte behind, and a wrong sum", append(bytes.Clone(whole), 0), api.ErrLong)
}

func TestP1501Short(t *testing.T) {
	b := raw(3, piece(t, blob("one"), 1), piece(t, blob("two"), 1), piece(t, ref(1, "d"), 1))
	for n := range b {
		want := api.ErrSum
		if n < 32 {
			want = api.ErrShort
		}
		wrong(t, "cut", b[:n], want)
		if n >= 20 && n < 32 {
			wrong(t, "cut, with its sum", resealed(b[:n]), api.ErrShort)
		}
		if n >= 32 {
			checkRead(t, resealed(b[:n]))
		}
	}
	for n := range 32 {
		wrong(t, "zeros", make([]byte, n), api.ErrShort)
	}
	wrong(t, "zeros", make([]byte, 32), api.ErrForm)
}

// TestP1501Front: whatever else the first eight bytes are.
func TestP1501Front(t *testing.T) {
	b := raw(1, piece(t, blob("one"), 1))
	for k := range 8 {
		for v := range 256 {
			x := bytes.Clone(b)
			if x[k] == byte(v) {
				continue
			}
			x[k] = byte(v)
			wrong(t, "front", x, api.ErrForm)
			wrong(t, "front, with its sum", resealed(x), api.ErrForm)
		}
	}
}

func TestP1501Sum(t *testing.T) {
	b := raw(1, piece(t, blob("one"), 1))
	for k := 8; k < len(b); k++ {
		for bit := range 8 {
			x := bytes.Clone(b)
			x[k] ^= 1 << bit
			wrong(t, "turned", x, api.ErrSum)
		}
	}
}

func TestP1501Count(t *testing.T) {
	small := piece(t, blob(""), 0)
	most := slices.Repeat([][]byte{small}, api.MaxCount+1)
	if l, err := pack.Read(raw(api.MaxCount, most[1:]...)); len(l) != api.MaxCount || err != api.OK {
		t.Errorf("%d entries, %v", len(l), err)
	}
	checkRead(t, raw(api.MaxCount, most[1:]...))
	wrong(t, "one more", raw(api.MaxCount+1, most...), api.ErrLong)
	wrong(t, "one more is there", raw(api.MaxCount, most...), api.ErrForm)
	wrong(t, "one is not there", raw(api.MaxCount, most[2:]...), api.ErrShort)
	for _, count := range []uint32{513, 1 << 16, 1 << 24, 1 << 31, 1<<31 - 1, 1<<32 - 1, 1<<31 + 2, 1<<16 + 2} {
		wrong(t, "too many are said", raw(count, small, small), api.ErrLong)
		wrong(t, "too many are said, of none", raw(count), api.ErrLong)
	}
	for count := range uint32(5) {
		b := raw(count, small, small)
		checkRead(t, b)
		want := []api.Errno{api.ErrForm, api.ErrForm, api.OK, api.ErrShort, api.ErrShort}[count]
		if l, err := pack.Read(b); err != want || (len(l) == 2) != (err == api.OK) {
			t.Errorf("%d are said of 2: %d, %v", count, len(l), err)
		}
	}
}

// TestP1501WrongEntries: an entry's error, wherever it stands.
func TestP1501WrongEntries(t *testing.T) {
	good := piece(t, blob("good"), 1)
	for _, x := range []struct {
		what  string
		entry []byte
		err   api.Errno
	}{
		{"kind 0", slices.Concat([]byte{0x02}, stored()), api.ErrForm},
		{"kind 5", slices.Concat([]byte{0x52}, stored()), api.ErrForm},
		{"a head without an end", slices.Repeat([]byte{0xB2}, 9), api.ErrLong},
		{"a great size", slices.Concat([]byte{0xB1, 0x80, 0x08}, stored()), api.ErrLong},
		{"more bytes than its size", slices.Concat([]byte{0x31}, stored()), api.ErrLong},
		{"fewer bytes than its size", slices.Concat([]byte{0x33}, stored()), api.ErrForm},
		{"a wrong sum", slices.Concat([]byte{0x32}, stored()[:12], []byte{0xD3}), api.ErrSum},
		{"no frame", slices.Concat([]byte{0x32, 0x79}, stored()[1:]), api.ErrForm},
		{"Back 0", slices.Concat([]byte{0x62, 0}, stored()), api.ErrForm},
		{"Back ahead of all", slices.Concat([]byte{0x62, 0xFE, 0x7F}, stored()), api.ErrForm},
		{"a wrong Back's form", slices.Concat([]byte{0x62}, slices.Repeat([]byte{0xFF}, 9), stored()), api.ErrLong},
	} {
		wrong(t, x.what, raw(1, x.entry), x.err)
		wrong(t, x.what+", the last", raw(2, good, x.entry), x.err)
		wrong(t, x.what+", the first", raw(2, x.entry, good), x.err)
		wrong(t, x.what+", and more are said", raw(512, good, x.entry), x.err)
	}
	long, form := slices.Repeat([]byte{0xB2}, 9), slices.Concat([]byte{0x52}, stored())
	wrong(t, "two: the first one's", raw(2, form, long), api.ErrForm)
	wrong(t, "two: the first one's", raw(2, long, form), api.ErrLong)
}

// TestP1501IntoTheSum: an entry that would be whole, if the last twenty bytes were its own.
func TestP1501IntoTheSum(t *testing.T) {
	good := piece(t, blob("good"), 1)
	for _, e := range []entry.Entry{blob("one"), ofs(14, "one"), ref(1, "one"), blob(string(noise(rand.New(rand.NewSource(1)), 300, 256)))} {
		p := piece(t, e, 1)
		for n := range p {
			b := raw(2, good, p[:n])
			wrong(t, "cut", b, api.ErrShort)
		}
	}
	// Here the sum's own first byte goes on where the entry was cut: it has to be met by trying.
	for v := range 4000 {
		e := blob(string(binary.BigEndian.AppendUint32(nil, uint32(v))))
		p := piece(t, e, 0)
		b := raw(1, p[:len(p)-1])
		if b[len(b)-20] != p[len(p)-1] {
			continue
		}
		if _, err := entry.Read(b, 12); err != api.OK {
			t.Fatalf("not met: %v", err)
		}
		wrong(t, "goes into the sum", b, api.ErrShort)
		return
	}
	t.Error("none was met")
}

func TestP1501Behind(t *testing.T) {
	good := piece(t, blob("good"), 1)
	for _, behind := range [][]byte{{0}, {0xFF}, {0x30}, good, make([]byte, 20), make([]byte, 1000)} {
		wrong(t, "behind one", raw(1, good, behind), api.ErrForm)
		wrong(t, "behind two", raw(2, good, good, behind), api.ErrForm)
	}
}

// TestP1501Bases: of all that a delta may lead back to, only entries' first bytes are bases.
func TestP1501Bases(t *testing.T) {
	pieces := [][]byte{piece(t, blob("one"), 1), piece(t, ref(1, "d"), 1), piece(t, blob("two"), 1)}
	ends := []int{12}
	for _, p := range pieces {
		ends = append(ends, ends[len(ends)-1]+len(p))
	}
	at := ends[3]
	for back := 1; back <= at+2; back++ {
		b := raw(5, append(slices.Clone(pieces), piece(t, ofs(back, "delta"), 1), piece(t, blob("end"), 1))...)
		if !slices.Contains(ends[:3], at-back) {
			wrong(t, "no base", b, api.ErrForm)
			continue
		}
		checkRead(t, b)
		if l, err := pack.Read(b); err != api.OK || len(l) != 5 || l[3].Back != back {
			t.Errorf("%d back: %+v, %v", back, l, err)
		}
	}
}

// TestP1501BasesLast: a wrong base is asked of behind all entries and the bytes behind them.
func TestP1501BasesLast(t *testing.T) {
	good, lost := piece(t, blob("good"), 1), piece(t, ofs(3, "d"), 1)
	wrong(t, "alone", raw(2, good, lost), api.ErrForm)
	wrong(t, "ahead of one cut", raw(3, good, lost, good[:5]), api.ErrShort)
	wrong(t, "ahead of one with a wrong sum", raw(3, good, lost, slices.Concat([]byte{0x32}, stored()[:12], []byte{0})), api.ErrSum)
	wrong(t, "ahead of one too long", raw(3, good, lost, slices.Repeat([]byte{0xB2}, 9)), api.ErrLong)
	wrong(t, "in the front", raw(1, piece(t, ofs(1, "d"), 1)), api.ErrForm)
	wrong(t, "the pack's first byte", raw(1, piece(t, ofs(12, "d"), 1)), api.ErrForm)
	wrong(t, "itself", raw(1, slices.Concat([]byte{0x62, 0}, stored())), api.ErrForm)
	// A base that is a delta by place itself may be: what it makes is not asked here.
	b := raw(3, good, piece(t, ofs(len(good), "d"), 1), piece(t, ofs(len(piece(t, ofs(len(good), "d"), 1)), "d"), 1))
	checkRead(t, b)
	if l, err := pack.Read(b); len(l) != 3 || err != api.OK {
		t.Errorf("%+v, %v", l, err)
	}
}

// TestP1501Order: of two faults the one that is named first.
func TestP1501Order(t *testing.T) {
	good := piece(t, blob("good"), 1)
	front := func(b []byte) []byte { b = bytes.Clone(b); b[0]++; return b }
	unsum := func(b []byte) []byte { b = bytes.Clone(b); b[len(b)-1]++; return b }
	wrong(t, "front ahead of sum", unsum(front(raw(1, good))), api.ErrForm)
	wrong(t, "front ahead of count", resealed(front(raw(513, good))), api.ErrForm)
	wrong(t, "front ahead of entries", resealed(front(raw(1, good[:3]))), api.ErrForm)
	wrong(t, "sum ahead of count", unsum(raw(513, good)), api.ErrSum)
	wrong(t, "sum ahead of entries", unsum(raw(1, good[:3])), api.ErrSum)
	wrong(t, "sum ahead of what is behind", unsum(raw(0, good)), api.ErrSum)
	wrong(t, "count ahead of entries", raw(513, slices.Concat([]byte{0x52}, stored())), api.ErrLong)
	wrong(t, "short ahead of front", make([]byte, 31), api.ErrShort)
	wrong(t, "long ahead of front", make([]byte, api.MaxPack+1), api.ErrLong)
}

func TestP1501TrailerAndName(t *testing.T) {
	b := noise(rand.New(rand.NewSource(1502)), 100, 256)
	for n := range b {
		checkNames(t, b[:n])
	}
	whole := raw(1, piece(t, blob("one"), 1))
	checkNames(t, whole)
	checkNames(t, make([]byte, api.MaxPack+5))
	// What stands there is told, whether or not the bytes are a pack.
	id := api.ID{0xAB, 19: 0x0F}
	if got, err := pack.Trailer(id[:]); got != id || err != api.OK {
		t.Errorf("%x, %v", got, err)
	}
	if name, err := pack.Name(id[:]); name != "pack-ab0000000000000000000000000000000000000f" || err != api.OK {
		t.Errorf("%s, %v", name, err)
	}
	if name, err := pack.Name(append([]byte("more ahead"), id[:]...)); name != "pack-ab0000000000000000000000000000000000000f" || err != api.OK {
		t.Errorf("%s, %v", name, err)
	}
}

// TestP1501Spoilt: each bit of some packs turned over, and bytes taken out and put in, with the sum made right.
func TestP1501Spoilt(t *testing.T) {
	random := rand.New(rand.NewSource(1503))
	packs := [][]byte{fromHex(t, gitThin)}
	for range 3 {
		b, _, _ := pack.Write(anyEntries(random, 4, 20), random.Intn(3))
		packs = append(packs, b)
	}
	for _, b := range packs {
		for k := range b[:len(b)-20] {
			for bit := range 8 {
				x := bytes.Clone(b)
				x[k] ^= 1 << bit
				checkRead(t, resealed(x))
			}
			checkRead(t, resealed(slices.Delete(bytes.Clone(b), k, k+1)))
			checkRead(t, resealed(slices.Insert(bytes.Clone(b), k, byte(random.Intn(256)))))
		}
	}
}

func FuzzP1501(f *testing.F) {
	b, _, _ := pack.Write(fewEntries(), 1)
	f.Add(b)
	f.Add(raw(0))
	f.Add(fromHex(f, gitThin))
	f.Fuzz(func(t *testing.T, b []byte) {
		if len(b) > 2000 {
			return
		}
		checkRead(t, b)
		checkNames(t, b)
		if len(b) < 20 {
			return
		}
		b = resealed(b)
		checkRead(t, b)
		if l, err := pack.Read(b); err == api.OK {
			checkWrite(t, inEntries(l), len(b)%5)
		}
	})
}
