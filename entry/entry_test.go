package entry_test

import (
	"bytes"
	"hash/adler32"
	"hash/crc32"
	"math"
	"math/rand"
	"slices"
	"testing"

	"trove/api"
	"trove/entry"
	"trove/zlib"
)

// packed: bytes in a frame of one stored block, so that a test knows each of them.
func packed(data string) []byte {
	n := len(data)
	sum := adler32.Checksum([]byte(data))
	return slices.Concat(
		[]byte{0x78, 0x01, 1, byte(n), byte(n >> 8), ^byte(n), ^byte(n >> 8)},
		[]byte(data),
		[]byte{byte(sum >> 24), byte(sum >> 16), byte(sum >> 8), byte(sum)},
	)
}

// someName: a base's name of twenty unlike bytes.
func someName() (id api.ID) {
	for k := range id {
		id[k] = byte(200 + k)
	}
	return id
}

func TestP1402ReadByHand(t *testing.T) {
	id := someName()
	ahead := bytes.Repeat([]byte{0xEE}, 300)
	for _, x := range []struct {
		b    []byte
		want entry.Entry
	}{
		{slices.Concat([]byte{0x32}, packed("hi")), entry.Entry{Kind: api.Blob, Size: 2, Data: []byte("hi")}},
		{slices.Concat([]byte{0x10}, packed("")), entry.Entry{Kind: api.Commit}},
		{slices.Concat([]byte{0x21}, packed("a")), entry.Entry{Kind: api.Tree, Size: 1, Data: []byte("a")}},
		{slices.Concat([]byte{0x4F}, packed("fifteen letters")), entry.Entry{Kind: api.Tag, Size: 15, Data: []byte("fifteen letters")}},
		{slices.Concat([]byte{0xB0, 1}, packed("sixteen letters.")), entry.Entry{Kind: api.Blob, Size: 16, Data: []byte("sixteen letters.")}},
		{slices.Concat([]byte{0xB2, 0x80, 0x80, 0}, packed("hi")), entry.Entry{Kind: api.Blob, Size: 2, Data: []byte("hi")}}, // a head longer than need be
		{slices.Concat([]byte{0x62, 1}, packed("hi")), entry.Entry{Kind: entry.Ofs, Size: 2, Back: 1, Data: []byte("hi")}},
		{slices.Concat([]byte{0x62, 127}, packed("hi")), entry.Entry{Kind: entry.Ofs, Size: 2, Back: 127, Data: []byte("hi")}},
		{slices.Concat([]byte{0x62, 0x81, 0x2C}, packed("hi")), entry.Entry{Kind: entry.Ofs, Size: 2, Back: 300, Data: []byte("hi")}}, // all that is ahead
		{slices.Concat([]byte{0x72}, id[:], packed("hi")), entry.Entry{Kind: entry.Ref, Size: 2, Base: id, Data: []byte("hi")}},
		{slices.Concat([]byte{0x72}, make([]byte, 20), packed("hi")), entry.Entry{Kind: entry.Ref, Size: 2, Data: []byte("hi")}},
	} {
		x.want.At, x.want.Len, x.want.Crc = 300, len(x.b), crc32.ChecksumIEEE(x.b)
		for _, behind := range [][]byte{nil, {0}, {0x32, 0xFF, 0x80}} {
			whole := slices.Concat(ahead, x.b, behind)
			e, err := entry.Read(whole, 300)
			if !sameEntry(e, x.want) || err != api.OK {
				t.Errorf("Read(%x): %+v, %v, not %+v", x.b, e, err, x.want)
			}
			checkRead(t, whole, 300)
		}
		for n := range x.b {
			if e, err := entry.Read(slices.Concat(ahead, x.b[:n]), 300); !sameEntry(e, entry.Entry{}) || err != api.ErrShort {
				t.Errorf("Read(%x): %+v, %v", x.b[:n], e, err)
			}
		}
	}
}

func TestP1402CrcByHand(t *testing.T) {
	b := []byte{9, 9, 0x31, 0x78, 0x01, 1, 1, 0, 0xFE, 0xFF, 'a', 0, 0x62, 0, 0x62, 9}
	if e, err := entry.Read(b, 2); e.At != 2 || e.Len != 13 || e.Crc != 0x52D28E10 || err != api.OK {
		t.Errorf("%+v, %v: %#x", e, err, e.Crc)
	}
}

func TestP1402ReadPlaces(t *testing.T) {
	b := slices.Concat([]byte{0x31}, packed("a"))
	twice := slices.Concat(b, b)
	for at := -3; at <= len(twice)+3; at++ {
		e, err := entry.Read(twice, at)
		switch {
		case at < 0 || at > len(twice):
			if !sameEntry(e, entry.Entry{}) || err != api.ErrArg {
				t.Errorf("at %d of %d: %+v, %v", at, len(twice), e, err)
			}
		case at == len(twice):
			if !sameEntry(e, entry.Entry{}) || err != api.ErrShort {
				t.Errorf("at the end: %+v, %v", e, err)
			}
		case at%len(b) == 0:
			if e.At != at || e.Len != len(b) || string(e.Data) != "a" || err != api.OK {
				t.Errorf("at %d: %+v, %v", at, e, err)
			}
		}
		checkRead(t, twice, at)
	}
	for _, at := range []int{math.MinInt, math.MaxInt, 1 << 40, -1 << 40} {
		if e, err := entry.Read(twice, at); !sameEntry(e, entry.Entry{}) || err != api.ErrArg {
			t.Errorf("at %d: %+v, %v", at, e, err)
		}
	}
	for _, at := range []int{-1, 1} {
		if _, err := entry.Read(nil, at); err != api.ErrArg {
			t.Errorf("at %d of nothing: %v", at, err)
		}
	}
	if _, err := entry.Read(nil, 0); err != api.ErrShort {
		t.Errorf("nothing: %v", err)
	}
}

// TestP1402ReadWrong: each error, and of several that apply the first one.
func TestP1402ReadWrong(t *testing.T) {
	on := func(n int) []byte { return bytes.Repeat([]byte{0x80}, n) }
	id := someName()
	wrongSum := packed("hi")
	wrongSum[len(wrongSum)-1]++
	big := func(kind byte) []byte { return []byte{0x81 | kind<<4, 0x80, 8} } // 16385 bytes
	for _, x := range []struct {
		what string
		b    []byte
		err  api.Errno
	}{
		{"a head that goes on", on(7), api.ErrShort},
		{"a head that is too long", on(8), api.ErrLong},
		{"a head that is too long, of a kind that is none", slices.Concat(on(8), []byte{1}), api.ErrLong},
		{"kind 0", slices.Concat([]byte{0x02}, packed("hi")), api.ErrForm},
		{"kind 5", slices.Concat([]byte{0x52}, packed("hi")), api.ErrForm},
		{"kind 0, and nothing behind", []byte{0x02}, api.ErrForm},
		{"kind 5, and nothing behind", []byte{0x52}, api.ErrForm},
		{"kind 0, too big", big(0), api.ErrForm},
		{"kind 5, too big", big(5), api.ErrForm},

		{"no offset", []byte{0x62}, api.ErrShort},
		{"an offset that goes on", slices.Concat([]byte{0x62}, on(7)), api.ErrShort},
		{"an offset that is too long", slices.Concat([]byte{0x62}, on(8)), api.ErrLong},
		{"an offset that is too long, and too big", slices.Concat(big(6), on(8)), api.ErrLong},
		{"no offset, too big", big(6), api.ErrShort},
		{"an offset of 0", slices.Concat([]byte{0x62, 0}, packed("hi")), api.ErrForm},
		{"an offset of 0, and nothing behind", []byte{0x62, 0}, api.ErrForm},
		{"an offset of 0, too big", slices.Concat(big(6), []byte{0}), api.ErrForm},
		{"an offset above the place", slices.Concat([]byte{0x62, 41}, packed("hi")), api.ErrForm},
		{"an offset above the place, too big", slices.Concat(big(6), []byte{41}), api.ErrForm},
		{"an offset far above the place", slices.Concat([]byte{0x62}, bytes.Repeat([]byte{0xFF}, 7), []byte{0x7F}, packed("hi")), api.ErrForm},
		{"an offset to the first byte, too big", slices.Concat(big(6), []byte{40}), api.ErrLong},

		{"no name", []byte{0x72}, api.ErrShort},
		{"a name of nineteen bytes", slices.Concat([]byte{0x72}, id[:19]), api.ErrShort},
		{"a name of nineteen bytes, too big", slices.Concat(big(7), id[:19]), api.ErrShort},
		{"a name, too big", slices.Concat(big(7), id[:]), api.ErrLong},
		{"a name, and nothing behind", slices.Concat([]byte{0x72}, id[:]), api.ErrShort},

		{"too big, and nothing behind", big(3), api.ErrLong},
		{"too big, and no frame behind", slices.Concat(big(3), []byte{0, 0, 0}), api.ErrLong},
		{"as big as a head can say", slices.Concat(bytes.Repeat([]byte{0xBF}, 7), []byte{0x7F}), api.ErrLong},
		{"no byte of a frame", []byte{0x32}, api.ErrShort},
		{"one byte of a frame", []byte{0x32, 0x78}, api.ErrShort},
		{"no frame", []byte{0x32, 0x78, 0x02, 1}, api.ErrForm},
		{"no frame of DEFLATE", slices.Concat([]byte{0x32, 0x77, 0x01}, packed("hi")[2:]), api.ErrForm},
		{"a dictionary", slices.Concat([]byte{0x32, 0x78, 0x20}, packed("hi")[2:]), api.ErrForm},
		{"a block of kind 3", []byte{0x32, 0x78, 0x01, 7, 0, 0, 0, 0, 0}, api.ErrForm},
		{"a wrong sum", slices.Concat([]byte{0x32}, wrongSum), api.ErrSum},
		{"a wrong sum, and too few", slices.Concat([]byte{0x33}, wrongSum), api.ErrSum},
		{"a wrong sum, and too many", slices.Concat([]byte{0x31}, wrongSum), api.ErrLong},
		{"too many", slices.Concat([]byte{0x31}, packed("hi")), api.ErrLong},
		{"too many, of none", slices.Concat([]byte{0x30}, packed("hi")), api.ErrLong},
		{"too many, cut off", []byte{0x31, 0x78, 0x01, 1, 2, 0}, api.ErrLong},
		{"too few", slices.Concat([]byte{0x33}, packed("hi")), api.ErrForm},
		{"none of one", slices.Concat([]byte{0x31}, packed("")), api.ErrForm},
		{"too few, cut off", slices.Concat([]byte{0x33}, packed("hi")[:12]), api.ErrShort},
		{"too few of a delta", slices.Concat([]byte{0x63, 40}, packed("hi")), api.ErrForm},
		{"too many of a delta", slices.Concat([]byte{0x61, 40}, packed("hi")), api.ErrLong},
		{"too few of the other delta", slices.Concat([]byte{0x73}, id[:], packed("hi")), api.ErrForm},
		{"too many of the other delta", slices.Concat([]byte{0x71}, id[:], packed("hi")), api.ErrLong},
	} {
		whole := slices.Concat(make([]byte, 40), x.b)
		if e, err := entry.Read(whole, 40); !sameEntry(e, entry.Entry{}) || err != x.err {
			t.Errorf("%s: %+v, %v, not %v", x.what, e, err, x.err)
		}
		checkRead(t, whole, 40)
	}
}

// TestP1402Bases: at each place the offsets that lead to a byte ahead, and those that do not.
func TestP1402Bases(t *testing.T) {
	tail := packed("hi")
	for _, at := range []int{0, 1, 2, 127, 128, 129, 255, 256, 16511, 16512, 16513} {
		for _, back := range []int{0, 1, at - 1, at, at + 1, at + 128} {
			if back < 0 {
				continue
			}
			whole := slices.Concat(make([]byte, at), []byte{0x62}, slowPutOffset(back), tail)
			e, err := entry.Read(whole, at)
			if 1 <= back && back <= at && (e.Back != back || err != api.OK) {
				t.Errorf("%d back at %d: %+v, %v", back, at, e, err)
			}
			if (back < 1 || back > at) && (!sameEntry(e, entry.Entry{}) || err != api.ErrForm) {
				t.Errorf("%d back at %d: %+v, %v", back, at, e, err)
			}
			checkRead(t, whole, at)
		}
	}
}

// TestP1402Limit: an object of as many bytes as may be, and one more.
func TestP1402Limit(t *testing.T) {
	most := noise(rand.New(rand.NewSource(14)), api.MaxObject, 256)
	more := append(bytes.Clone(most), 7)
	for _, kind := range []int{1, 2, 3, 4, 6, 7} {
		for _, effort := range []int{0, 3} {
			checkWrite(t, entry.Entry{Kind: kind, Back: 9, Data: most}, effort)
			if b, err := entry.Write(entry.Entry{Kind: kind, Back: 9, Data: more}, effort); len(b) != 0 || err != api.ErrArg {
				t.Errorf("Write(%d, %d bytes): %d bytes, %v", kind, len(more), len(b), err)
			}
		}
	}
	for _, data := range [][]byte{more, make([]byte, api.MaxObject+1), make([]byte, api.MaxFile)} {
		whole := slices.Concat(slowPutHead(api.Blob, len(data)), zlib.Pack(data, 1))
		if e, err := entry.Read(whole, 0); !sameEntry(e, entry.Entry{}) || err != api.ErrLong {
			t.Errorf("Read of %d bytes: %+v, %v", len(data), e, err)
		}
		whole = slices.Concat(slowPutHead(api.Blob, api.MaxObject), zlib.Pack(data, 1))
		if e, err := entry.Read(whole, 0); !sameEntry(e, entry.Entry{}) || err != api.ErrLong {
			t.Errorf("Read of %d bytes that are said to be fewer: %+v, %v", len(data), e, err)
		}
	}
}

func TestP1402WriteByHand(t *testing.T) {
	id := someName()
	for _, x := range []struct {
		e     entry.Entry
		front []byte
	}{
		{entry.Entry{Kind: api.Commit}, []byte{0x10}},
		{entry.Entry{Kind: api.Tree, Data: []byte("a")}, []byte{0x21}},
		{entry.Entry{Kind: api.Blob, Data: []byte("sixteen letters.")}, []byte{0xB0, 1}},
		{entry.Entry{Kind: api.Tag, Data: []byte("tag")}, []byte{0x43}},
		{entry.Entry{Kind: entry.Ofs, Back: 1, Data: []byte("hi")}, []byte{0x62, 1}},
		{entry.Entry{Kind: entry.Ofs, Back: 300, Data: []byte("hi")}, []byte{0x62, 0x81, 0x2C}},
		{entry.Entry{Kind: entry.Ref, Base: id, Data: []byte("hi")}, slices.Concat([]byte{0x72}, id[:])},
		{entry.Entry{Kind: entry.Ref}, slices.Concat([]byte{0x70}, make([]byte, 20))},
		// What an entry's kind does not have is not written.
		{entry.Entry{Kind: api.Blob, Back: 300, Base: id, Data: []byte("hi")}, []byte{0x32}},
		{entry.Entry{Kind: api.Blob, Back: -1, Data: []byte("hi")}, []byte{0x32}},
		{entry.Entry{Kind: entry.Ofs, Back: 5, Base: id, Data: []byte("hi")}, []byte{0x62, 5}},
		{entry.Entry{Kind: entry.Ref, Back: 5, Base: id, Data: []byte("hi")}, slices.Concat([]byte{0x72}, id[:])},
		{entry.Entry{Kind: entry.Ref, Back: -5, Base: id, Data: []byte("hi")}, slices.Concat([]byte{0x72}, id[:])},
		// What is told of its place, and its Size, are not asked.
		{entry.Entry{Kind: api.Blob, Size: 77, At: -1, Len: 99, Crc: 5, Data: []byte("hi")}, []byte{0x32}},
		{entry.Entry{Kind: api.Blob, Size: -1, At: math.MaxInt, Len: -1, Data: []byte("hi")}, []byte{0x32}},
		{entry.Entry{Kind: api.Blob, Size: math.MaxInt, Data: []byte("hi")}, []byte{0x32}},
	} {
		for _, effort := range []int{math.MinInt, -1, 0, 1, 9, math.MaxInt} {
			b := checkWrite(t, x.e, effort)
			if !bytes.Equal(b, slices.Concat(x.front, zlib.Pack(x.e.Data, effort))) {
				t.Errorf("Write(%+v, %d): %x", x.e, effort, b)
			}
		}
	}
}

func TestP1402WriteWrong(t *testing.T) {
	for _, e := range []entry.Entry{
		{},
		{Kind: 5},
		{Kind: 8},
		{Kind: -1},
		{Kind: 16 + api.Blob},
		{Kind: 256 + api.Blob},
		{Kind: math.MinInt},
		{Kind: math.MaxInt},
		{Kind: entry.Ofs},
		{Kind: entry.Ofs, Back: -1},
		{Kind: entry.Ofs, Back: math.MinInt},
		{Kind: entry.Ofs, Base: someName()},
		{Kind: api.Blob, Data: make([]byte, api.MaxObject+1)},
		{Kind: entry.Ofs, Back: 1, Data: make([]byte, api.MaxObject+1)},
		{Kind: entry.Ref, Data: make([]byte, api.MaxFile+1)},
		{Kind: 5, Data: make([]byte, api.MaxObject+1)},
	} {
		for _, effort := range []int{-1, 0, 1} {
			if b, err := entry.Write(e, effort); len(b) != 0 || err != api.ErrArg {
				t.Errorf("Write(%d, %d, %d bytes): %x, %v", e.Kind, e.Back, len(e.Data), b, err)
			}
		}
	}
	data := []byte("some data")
	for _, kind := range []int{0, 5, 8, -1, 9, 15} {
		if b, err := entry.Write(entry.Entry{Kind: kind, Back: 5, Data: data}, 1); len(b) != 0 || err != api.ErrArg {
			t.Errorf("Write(%d): %x, %v", kind, b, err)
		}
	}
}

// TestP1402Backs: offsets of every length that a place may have.
func TestP1402Backs(t *testing.T) {
	for _, back := range []int{1, 2, 127, 128, 129, 255, 256, 16511, 16512, 16513, api.MaxPack, api.MaxFile, 2113663, 2113664} {
		checkWrite(t, entry.Entry{Kind: entry.Ofs, Back: back, Data: []byte("hi")}, 1)
	}
}

// TestP1402FarBacks: a base farther ahead than any place is only too far for Read.
func TestP1402FarBacks(t *testing.T) {
	for _, back := range []int{1 << 31, 1 << 40, 1 << 55} {
		b, err := entry.Write(entry.Entry{Kind: entry.Ofs, Back: back, Data: []byte("hi")}, 1)
		if !bytes.HasPrefix(b, slices.Concat([]byte{0x62}, slowPutOffset(back))) || err != api.OK {
			t.Errorf("Write(%d back): %x, %v", back, b, err)
		}
		if e, err := entry.Read(b, 0); !sameEntry(e, entry.Entry{}) || err != api.ErrForm {
			t.Errorf("Read of %d back: %+v, %v", back, e, err)
		}
	}
}

func TestP1402Effort(t *testing.T) {
	data := bytes.Repeat([]byte("some words "), 1000)
	for _, kind := range []int{1, 4, 6, 7} {
		e := entry.Entry{Kind: kind, Back: 1, Data: data}
		if b := checkWrite(t, e, 9); len(b) > len(data)/10 {
			t.Errorf("effort is not used: %d bytes", len(b))
		}
		if b := checkWrite(t, e, 0); len(b) < len(data)/10 {
			t.Errorf("without effort: %d bytes", len(b))
		}
	}
}

func anyEntry(random *rand.Rand) entry.Entry {
	kinds := []int{1, 2, 3, 4, 6, 7}
	e := entry.Entry{Kind: kinds[random.Intn(len(kinds))], Back: 1 + random.Intn(1<<random.Intn(12)), Data: noise(random, random.Intn(1<<random.Intn(12)), 1+random.Intn(256))}
	copy(e.Base[:], noise(random, 20, 256))
	return e
}

func TestP1402Random(t *testing.T) {
	random := rand.New(rand.NewSource(1402))
	for range 1500 {
		checkWrite(t, anyEntry(random), random.Intn(5)-1)
	}
}

// TestP1402Spoilt: each bit of some entries turned over, and bytes taken out and put in.
func TestP1402Spoilt(t *testing.T) {
	random := rand.New(rand.NewSource(1403))
	for range 60 {
		e := anyEntry(random)
		e.Data = e.Data[:min(len(e.Data), 40)]
		b, _ := entry.Write(e, random.Intn(3))
		at := random.Intn(300)
		whole := slices.Concat(noise(random, at, 256), b, noise(random, random.Intn(3), 256))
		for k := at; k < len(whole); k++ {
			for bit := range 8 {
				whole[k] ^= 1 << bit
				checkRead(t, whole, at)
				whole[k] ^= 1 << bit
			}
			checkRead(t, slices.Delete(bytes.Clone(whole), k, k+1), at)
			checkRead(t, slices.Insert(bytes.Clone(whole), k, byte(random.Intn(256))), at)
			checkRead(t, whole[:k], at)
			checkRead(t, whole, k)
		}
	}
}

// TestP1402Fronts: every head and what may follow it, with little behind.
func TestP1402Fronts(t *testing.T) {
	for a := range 256 {
		for _, c := range []byte{0, 1, 2, 3, 8, 0x78, 0x7F, 0x80, 0xFF} {
			for _, behind := range [][]byte{nil, packed(""), packed("a"), packed("ab"), slices.Concat(make([]byte, 19), packed("ab"))} {
				for at := range 4 {
					checkRead(t, slices.Concat(make([]byte, at), []byte{byte(a), c}, behind), at)
				}
			}
		}
	}
}

func FuzzP1402(f *testing.F) {
	for _, e := range []entry.Entry{{Kind: 1}, {Kind: 3, Data: []byte("some data, some data")}, {Kind: 6, Back: 2, Data: []byte("delta")}, {Kind: 7, Data: []byte("delta")}} {
		b, _ := entry.Write(e, 1)
		f.Add(slices.Concat([]byte{1, 2}, b, []byte{3}), 2)
	}
	f.Fuzz(func(t *testing.T, b []byte, at int) {
		if len(b) > 1000 {
			return
		}
		checkRead(t, b, at)
		e, err := entry.Read(b, at)
		if err == api.OK {
			checkWrite(t, e, at%7)
		}
	})
}

// TestP2ReadAndWrite: neither what is handed in, nor its spare room, is changed or kept; and an answer is nobody else's.
func TestP2ReadAndWrite(t *testing.T) {
	random := rand.New(rand.NewSource(1404))
	for _, kind := range []int{1, 6, 7} {
		for _, n := range []int{0, 1, 30, 3000} {
			data := noise(random, n+20, 4)
			wasData := bytes.Clone(data)
			e := entry.Entry{Kind: kind, Back: 3, Base: someName(), Data: data[:n]}
			b, _ := entry.Write(e, 1)
			other, _ := entry.Write(e, 1)
			wasB := bytes.Clone(b)
			if !bytes.Equal(data, wasData) || !bytes.Equal(b, other) {
				t.Fatal("Write changed what it was handed, or answers otherwise")
			}
			spoil(other)
			spoil(data)
			if !bytes.Equal(b, wasB) {
				t.Fatal("Write keeps what it was handed, or answers what is kept")
			}
			whole := slices.Concat([]byte{1, 2, 3}, b, []byte("spare"))
			wasWhole := bytes.Clone(whole)
			x, _ := entry.Read(whole[:3+len(b)], 3)
			y, _ := entry.Read(whole[:3+len(b)], 3)
			if !bytes.Equal(whole, wasWhole) || !sameEntry(x, y) {
				t.Fatal("Read changed what it was handed, or answers otherwise")
			}
			spoil(y.Data)
			spoil(whole)
			if !bytes.Equal(x.Data, wasData[:n]) {
				t.Fatal("Read keeps what it was handed, or answers what is kept")
			}
		}
	}
	b, _ := entry.Write(entry.Entry{Kind: 3, Data: []byte("hi")}, 1)
	if _, err := entry.Read(b[:len(b)-1], 0); err != api.ErrShort {
		t.Errorf("Read took spare room: %v", err)
	}
}
