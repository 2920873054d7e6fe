package idx_test

import (
	"bytes"
	"encoding/binary"
	"math/rand"
	"slices"
	"testing"

	"trove/api"
	"trove/idx"
)

// wrong demands that Open answers this error, and so does the slow model.
func wrong(t *testing.T, what string, b []byte, want api.Errno) {
	t.Helper()
	if err := checkOpen(t, b); err != want {
		t.Errorf("%s: %v, not %v", what, err, want)
	}
}

func TestP1701OpenShort(t *testing.T) {
	none, err := idx.Build(nil, api.ID{})
	if err != api.OK {
		t.Fatal(err)
	}
	few := fewBytes(t)
	for n := range 1072 {
		wrong(t, "cut", none[:n], api.ErrShort)
		wrong(t, "cut, of rows", few[:n], api.ErrShort)
		wrong(t, "zeros", make([]byte, n), api.ErrShort)
	}
	wrong(t, "1072 bytes", none, api.OK)
	wrong(t, "1072 zeros", make([]byte, 1072), api.ErrForm)
	wrong(t, "1072 of more", few[:1072], api.ErrSum)
}

func TestP1701OpenLong(t *testing.T) {
	long := append(fewBytes(t), make([]byte, api.MaxFile)...)
	wrong(t, "one more than a file", long[:api.MaxFile+1], api.ErrLong)
	wrong(t, "one more, the sum right", sealed(long[:api.MaxFile-19]), api.ErrLong)
	wrong(t, "a file", long[:api.MaxFile], api.ErrSum)
	wrong(t, "a file, the sum right", sealed(long[:api.MaxFile-20]), api.ErrForm)
	wrong(t, "zeros", make([]byte, api.MaxFile), api.ErrForm)
	wrong(t, "more zeros", make([]byte, 2*api.MaxFile), api.ErrLong)
}

// TestP1701OpenFront: each bit of the first eight bytes, with a sum that is right, and with one that is not.
func TestP1701OpenFront(t *testing.T) {
	b := fewBytes(t)
	for bit := range 64 {
		turned := bytes.Clone(b)
		turned[bit/8] ^= 1 << (bit % 8)
		wrong(t, "front", turned, api.ErrForm)
		wrong(t, "front, the sum right", resealed(turned), api.ErrForm)
		binary.BigEndian.PutUint32(turned[1028:], 513)
		wrong(t, "front, of many", resealed(turned), api.ErrForm)
	}
}

// TestP1701OpenSum: each bit that is turned makes the sum wrong, wherever it stands behind the front.
func TestP1701OpenSum(t *testing.T) {
	b := fewBytes(t)
	for bit := 64; bit < 8*len(b); bit++ {
		turned := bytes.Clone(b)
		turned[bit/8] ^= 1 << (bit % 8)
		if x, err := idx.Open(turned); x != nil || err != api.ErrSum {
			t.Fatalf("bit %d: %v, %v", bit, x, err)
		}
	}
	for n := 1072; n < len(b); n++ {
		wrong(t, "cut", b[:n], api.ErrSum)
	}
	wrong(t, "more", append(bytes.Clone(b), 0), api.ErrSum)
	turned := bytes.Clone(b)
	binary.BigEndian.PutUint32(turned[1028:], 513)
	wrong(t, "a sum that is wrong, of many", turned, api.ErrSum)
}

// TestP1701OpenBits: each bit turned over, the sum made right.
func TestP1701OpenBits(t *testing.T) {
	for _, b := range [][]byte{fewBytes(t), laid(nil, api.ID{}, 1), laid(sorted(many(2)), ff(), 1<<31)} {
		counts := map[api.Errno]int{}
		for bit := 64; bit < 8*(len(b)-20); bit++ {
			turned := bytes.Clone(b)
			turned[bit/8] ^= 1 << (bit % 8)
			counts[checkOpen(t, resealed(turned))]++
		}
		if counts[api.OK] < 160 || counts[api.ErrForm] < 2000 || counts[api.ErrLong] < 20 || len(counts) != 3 {
			t.Errorf("%v", counts)
		}
	}
}

// TestP1701OpenCuts: each length, the sum made right; and a piece of each place left out or put in.
func TestP1701OpenCuts(t *testing.T) {
	b := fewBytes(t)
	body := b[:len(b)-20]
	for n := 1052; n < len(body); n++ {
		wrong(t, "cut", sealed(body[:n]), api.ErrForm)
	}
	for n := 1; n < 50; n++ {
		wrong(t, "zeros behind", sealed(append(bytes.Clone(body), make([]byte, n)...)), api.ErrForm)
	}
	for at := 1032; at < len(body); at++ {
		for _, n := range []int{1, 4, 8, 20, 28} {
			wrong(t, "left out", sealed(slices.Concat(body[:at], body[min(at+n, len(body)):])), api.ErrForm)
			wrong(t, "put in", sealed(slices.Concat(body[:at], make([]byte, n), body[at:])), api.ErrForm)
		}
	}
}

// TestP1701OpenCount: the fanout's last number, of rows that are there and that are not.
func TestP1701OpenCount(t *testing.T) {
	rows := sorted(many(513))
	wrong(t, "512 rows", laid(rows[:512], api.ID{}, 1<<31), api.OK)
	wrong(t, "513 rows", laid(rows, api.ID{}, 1<<31), api.ErrLong)
	few := fewBytes(t)
	for _, n := range []uint32{0, 1, 4, 6, 7, 256, 511, 512} {
		wrong(t, "another count", set(few, 1028, n), api.ErrForm)
	}
	for _, n := range []uint32{513, 514, 1 << 16, 1<<31 - 1, 1 << 31, 1<<32 - 1} {
		wrong(t, "too high a count", set(few, 1028, n), api.ErrLong)
		wrong(t, "too high a count of none", set(laid(nil, api.ID{}, 1), 1028, n), api.ErrLong)
	}
}

// TestP1701OpenFanout: each number of the fanout but the last set to what it is not.
func TestP1701OpenFanout(t *testing.T) {
	b := fewBytes(t)
	for i := range 255 {
		is := binary.BigEndian.Uint32(b[8+4*i:])
		for _, n := range []uint32{0, 1, 2, 3, 4, 5, 6, 513, 1 << 31, 1<<32 - 1} {
			want := api.ErrForm
			if n == is {
				want = api.OK
			}
			wrong(t, "fanout", set(b, 8+4*i, n), want)
		}
	}
}

// TestP1701OpenNames: names that do not rise.
func TestP1701OpenNames(t *testing.T) {
	a, b, c := idx.Row{ID: api.ID{9, 1}, At: 12}, idx.Row{ID: api.ID{9, 2}, At: 30}, idx.Row{ID: api.ID{10}, At: 50}
	wrong(t, "rising", laid([]idx.Row{a, b, c}, api.ID{}, 1<<31), api.OK)
	for _, l := range [][]idx.Row{{b, a, c}, {a, c, b}, {c, b, a}, {a, a, c}, {a, b, b}, {a, a}, {c, c, c}} {
		wrong(t, "not rising", laid(l, api.ID{}, 1<<31), api.ErrForm)
	}
}

// TestP1701OpenFar: places of eight bytes whose numbers are not those of their order, which lead elsewhere, or that need no eight bytes.
func TestP1701OpenFar(t *testing.T) {
	rows := []idx.Row{{ID: api.ID{1}, At: 1 << 31}, {ID: api.ID{2}, At: 12}, {ID: api.ID{3}, At: 1 << 40}}
	b := laid(rows, api.ID{}, 1<<31)
	const first, third, long = 1032 + 3*24, 1032 + 3*24 + 8, 1032 + 3*28
	wrong(t, "far", b, api.OK)
	for _, n := range []uint32{0x80000001, 0x80000002, 0xFFFFFFFF, 0, 1, 0x7FFFFFFF} {
		wrong(t, "the first one's number", set(b, first, n), api.ErrForm)
	}
	for _, n := range []uint32{0x80000000, 0x80000002, 0xFFFFFFFF, 0, 1, 0x7FFFFFFF} {
		wrong(t, "the third one's number", set(b, third, n), api.ErrForm)
	}
	wrong(t, "the numbers turned round", set(set(b, first, 0x80000001), third, 0x80000000), api.ErrForm)
	for _, c := range []struct {
		v   uint64
		err api.Errno
	}{
		{0, api.ErrForm}, {12, api.ErrForm}, {1<<31 - 1, api.ErrForm}, {1 << 31, api.OK}, {1<<31 + 1, api.OK}, {1 << 40, api.OK},
		{1<<40 + 1, api.ErrForm}, {1 << 41, api.ErrForm}, {1<<63 - 1, api.ErrForm}, {1 << 63, api.ErrForm}, {1<<63 + 1<<31, api.ErrForm}, {1<<64 - 1, api.ErrForm},
	} {
		for _, at := range []int{long, long + 8} {
			turned := bytes.Clone(b)
			binary.BigEndian.PutUint64(turned[at:], c.v)
			wrong(t, "a far place", resealed(turned), c.err)
		}
	}
	wrong(t, "a far place that is none's", set(b, third, 40), api.ErrForm)
	near := laid(rows[1:2], api.ID{}, 1<<31)
	wrong(t, "no far place there", set(near, 1032+24, 0x80000000), api.ErrForm)
	wrong(t, "the trailer as a far place", set(laid(nil, api.ID{3: 1}, 1), 1028, 1), api.ErrForm)
	for far := range 14 {
		want := api.ErrForm
		if far > 12 {
			want = api.OK
		}
		wrong(t, "near places with eight bytes", laid(rows[1:2], api.ID{}, far), want)
	}
	wrong(t, "far places with four bytes", laid([]idx.Row{{At: 1 << 30}, {ID: api.ID{1}, At: 1 << 31}}, api.ID{}, 1<<32), api.ErrForm)
}

// TestP1701OpenRandom: indexes of which a few bytes were spoilt.
func TestP1701OpenRandom(t *testing.T) {
	random := rand.New(rand.NewSource(1702))
	for range 3000 {
		rows := sorted(many(random.Intn(12)))
		for i := range rows {
			rows[i].At += random.Intn(2) << 31
		}
		b := laid(rows, api.ID{8}, 1<<31)
		for range random.Intn(3) {
			b[8+random.Intn(len(b)-8)] ^= 1 << random.Intn(8)
		}
		switch random.Intn(4) {
		case 0:
			b = b[:len(b)-random.Intn(30)]
		case 1:
			b = append(b, make([]byte, random.Intn(30))...)
		}
		if random.Intn(8) > 0 && len(b) > 20 {
			b = resealed(b)
		}
		checkOpen(t, b)
	}
}

// FuzzP1701Open: what stands behind the front and ahead of the sum is any bytes.
func FuzzP1701Open(f *testing.F) {
	for _, b := range [][]byte{fewBytes(f), laid(nil, api.ID{}, 1), laid(sorted(many(3)), api.ID{}, 1<<31)} {
		f.Add(b[8:len(b)-20], true)
		f.Add(b, false)
	}
	f.Fuzz(func(t *testing.T, b []byte, seal bool) {
		if seal {
			b = sealed(append([]byte("\xFFtOc\x00\x00\x00\x02"), b...))
		}
		checkOpen(t, b)
	})
}

// FuzzP1701Build: rows of 28 bytes each, with places of any bytes.
func FuzzP1701Build(f *testing.F) {
	f.Add([]byte("some words that are no rows, yet rows can be made of any bytes that there are"))
	f.Add(make([]byte, 90))
	f.Fuzz(func(t *testing.T, b []byte) {
		var rows []idx.Row
		for len(b) >= 32 && len(rows) < 600 {
			at := int(binary.BigEndian.Uint64(b[24:]))
			if b[0]&1 == 0 {
				at &= 1<<41 - 1
			}
			rows = append(rows, idx.Row{ID: api.ID(b), Crc: binary.BigEndian.Uint32(b[20:]), At: at})
			b = b[32:]
		}
		var trailer api.ID
		copy(trailer[:], b)
		checkBuild(t, rows, trailer)
	})
}
