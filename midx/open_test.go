package midx_test

import (
	"bytes"
	"encoding/binary"
	"math/rand"
	"slices"
	"strings"
	"testing"

	"trove/api"
	"trove/idx"
	"trove/midx"
)

// wrong demands that Open answers this error, and so does the slow model.
func wrong(t *testing.T, what string, b []byte, want api.Errno) {
	t.Helper()
	if err := checkOpen(t, b); err != want {
		t.Errorf("%s: %v, not %v", what, err, want)
	}
}

// Where the pieces of few stand.
const (
	fewFan    = 72 + 200
	fewIDs    = fewFan + 1024
	fewPlaces = fewIDs + 5*20
)

func TestP1801OpenShort(t *testing.T) {
	b := fewBytes(t)
	for n := range 32 {
		want := api.ErrForm
		if n < 20 {
			want = api.ErrShort
		}
		wrong(t, "cut", b[:n], want)
		wrong(t, "zeros", make([]byte, n), want)
		if n >= 20 {
			wrong(t, "cut, the sum right", sealed(b[:n-20]), want)
		}
	}
	wrong(t, "none", nil, api.ErrShort)
	wrong(t, "32 bytes", b[:32], api.ErrSum)
	wrong(t, "32 zeros", make([]byte, 32), api.ErrForm)
	wrong(t, "a head, the sum right", sealed(b[:12]), api.ErrForm)
	wrong(t, "a head of none, the sum right", sealed([]byte("MIDX\x01\x01\x04\x00\x00\x00\x00\x00")), api.ErrForm)
}

func TestP1801OpenLong(t *testing.T) {
	long := append(fewBytes(t), make([]byte, api.MaxFile)...)
	wrong(t, "one more than a file", long[:api.MaxFile+1], api.ErrLong)
	wrong(t, "one more, the sum right", sealed(long[:api.MaxFile-19]), api.ErrLong)
	wrong(t, "a file", long[:api.MaxFile], api.ErrSum)
	wrong(t, "a file, the sum right", sealed(long[:api.MaxFile-20]), api.ErrForm)
	wrong(t, "zeros", make([]byte, api.MaxFile), api.ErrForm)
	wrong(t, "more zeros", make([]byte, 2*api.MaxFile), api.ErrLong)
}

// TestP1801OpenFront: each bit of the first eight bytes, with a sum that is right, and with one that is not.
func TestP1801OpenFront(t *testing.T) {
	b := fewBytes(t)
	for bit := range 64 {
		turned := bytes.Clone(b)
		turned[bit/8] ^= 1 << (bit % 8)
		wrong(t, "front", turned, api.ErrForm)
		wrong(t, "front, the sum right", resealed(turned), api.ErrForm)
		wrong(t, "front, cut", turned[:20], api.ErrForm)
		wrong(t, "front, cut more", turned[:19], api.ErrShort)
	}
}

// TestP1801OpenSum: each bit that is turned makes the sum wrong, wherever it stands behind the front.
func TestP1801OpenSum(t *testing.T) {
	b := fewBytes(t)
	for bit := 64; bit < 8*len(b); bit++ {
		turned := bytes.Clone(b)
		turned[bit/8] ^= 1 << (bit % 8)
		if x, err := midx.Open(turned); x != nil || err != api.ErrSum {
			t.Fatalf("bit %d: %v, %v", bit, x, err)
		}
	}
	for n := 32; n < len(b); n++ {
		wrong(t, "cut", b[:n], api.ErrSum)
	}
	wrong(t, "more", append(bytes.Clone(b), 0), api.ErrSum)
}

// TestP1801OpenBits: each bit turned over, the sum made right.
func TestP1801OpenBits(t *testing.T) {
	three := []midx.Pack{{Name: named(2), Rows: many(5, 3)}, {Name: named(9), Rows: many(7, 3)}, {Name: named(12)}}
	for _, packs := range [][]midx.Pack{few(), three, nil} {
		b, err := midx.Build(packs)
		if err != api.OK {
			t.Fatal(err)
		}
		counts := map[api.Errno]int{}
		for bit := 64; bit < 8*(len(b)-20); bit++ {
			turned := bytes.Clone(b)
			turned[bit/8] ^= 1 << (bit % 8)
			counts[checkOpen(t, resealed(turned))]++
		}
		if packs != nil && counts[api.OK] < 300 || counts[api.ErrForm] < 8000 || counts[api.OK]+counts[api.ErrForm] != 8*(len(b)-28) {
			t.Errorf("%v", counts)
		}
	}
}

// TestP1801OpenCuts: each length, the sum made right; and a piece of each place left out or put in.
func TestP1801OpenCuts(t *testing.T) {
	b := fewBytes(t)
	body := b[:len(b)-20]
	for n := 12; n < len(body); n++ {
		wrong(t, "cut", sealed(body[:n]), api.ErrForm)
	}
	for n := 1; n < 60; n++ {
		wrong(t, "zeros behind", sealed(append(bytes.Clone(body), make([]byte, n)...)), api.ErrForm)
	}
	for at := 12; at < len(body); at++ {
		for _, n := range []int{1, 4, 8, 12, 20, 28, 50} {
			wrong(t, "left out", sealed(slices.Concat(body[:at], body[min(at+n, len(body)):])), api.ErrForm)
			wrong(t, "put in", sealed(slices.Concat(body[:at], make([]byte, n), body[at:])), api.ErrForm)
		}
	}
}

// TestP1801OpenCount: how many packs and IDs there are, of those that are there and that are not.
func TestP1801OpenCount(t *testing.T) {
	b, none := fewBytes(t), laid(nil, nil)
	for _, n := range []uint32{0, 1, 2, 3, 5, 6, 7, 8, 63, 64, 65, 255, 256, 260, 2048, 1 << 16, 1<<31 - 1, 1 << 31, 1<<31 + 4, 1<<32 - 1} {
		wrong(t, "another number of packs", set(b, 8, n), api.ErrForm)
		if n > 0 {
			wrong(t, "packs of none", set(none, 8, n), api.ErrForm)
		}
	}
	for _, n := range []uint32{0, 1, 4, 6, 7, 261, 2047, 2048, 2049, 1 << 16, 1<<31 - 1, 1 << 31, 1<<32 - 1} {
		wrong(t, "another number of IDs", set(b, fewFan+1020, n), api.ErrForm)
		if n > 0 {
			wrong(t, "IDs of none", set(none, 72+1020, n), api.ErrForm)
		}
	}
}

// TestP1801OpenMany: as many packs and IDs as Build makes, and one more, all of them there.
func TestP1801OpenMany(t *testing.T) {
	var names []string
	for i := range 65 {
		names = append(names, named(i))
	}
	l := make([]told, 2049)
	for i := range l {
		binary.BigEndian.PutUint16(l[i].id[:], uint16(i*31))
		l[i].pack, l[i].at = uint32(i%64), uint32(i)
	}
	wrong(t, "64, 2048", laid(names[:64], l[:2048]), api.OK)
	wrong(t, "65, 2048", laid(names, l[:2048]), api.ErrForm)
	wrong(t, "64, 2049", laid(names[:64], l), api.ErrForm)
	wrong(t, "65, 2049", laid(names, l), api.ErrForm)
	wrong(t, "65, none", laid(names, nil), api.ErrForm)
	wrong(t, "none of 65 packs, a pack", laid(nil, l[:1]), api.ErrForm)
}

// TestP1801OpenTable: each number of the table set to what it is not, and its letters in other orders.
func TestP1801OpenTable(t *testing.T) {
	b := fewBytes(t)
	for i := range 5 {
		at := 12 + 12*i
		is := binary.BigEndian.Uint64(b[at+4:])
		for _, n := range []uint64{0, 12, 72, is - 4, is - 1, is + 1, is + 4, uint64(len(b)), 1 << 31, 1<<32 + is, 1<<63 - 1, 1<<63 + is, 1<<64 - 1} {
			turned := bytes.Clone(b)
			binary.BigEndian.PutUint64(turned[at+4:], n)
			want := api.ErrForm
			if n == is {
				want = api.OK
			}
			wrong(t, "a place", resealed(turned), want)
		}
		for k := range i {
			turned := bytes.Clone(b)
			copy(turned[at:], b[12+12*k:24+12*k])
			copy(turned[12+12*k:], b[at:at+12])
			wrong(t, "rows of the table turned round", resealed(turned), api.ErrForm)
		}
		for _, letters := range []string{"PNAM", "OIDF", "OIDL", "OOFF", "LOFF", "RIDX", "BTMP", "pnam", "\x00\x00\x00\x00"} {
			turned := bytes.Clone(b)
			copy(turned[at:], letters)
			want := api.ErrForm
			if bytes.Equal(turned, b) {
				want = api.OK
			}
			wrong(t, "letters", resealed(turned), want)
		}
	}
}

// TestP1801OpenOrder: chunks whose places are right, yet not in the order that Build has.
func TestP1801OpenOrder(t *testing.T) {
	b := fewBytes(t)
	pieces := map[string][]byte{"PNAM": b[72:fewFan], "OIDF": b[fewFan:fewIDs], "OIDL": b[fewIDs:fewPlaces], "OOFF": b[fewPlaces : len(b)-20]}
	order := []string{"PNAM", "OIDF", "OIDL", "OOFF"}
	ways := 0
	orders(order, func() {
		table, body, at := bytes.Clone(b[:12]), []byte(nil), 72
		for _, letters := range order {
			table = binary.BigEndian.AppendUint64(append(table, letters...), uint64(at))
			body = append(body, pieces[letters]...)
			at += len(pieces[letters])
		}
		table = binary.BigEndian.AppendUint64(append(table, 0, 0, 0, 0), uint64(at))
		if checkOpen(t, sealed(append(table, body...))) == api.OK {
			ways++
		}
	})
	if ways != 1 {
		t.Errorf("%d orders are right", ways)
	}
}

// TestP1801OpenNames: names that do not rise, are there twice, or may not be; and what stands behind them.
func TestP1801OpenNames(t *testing.T) {
	a, b, c := named(1), named(2), named(3)
	l := []told{{api.ID{4}, 0, 12}, {api.ID{5}, 1, 40}}
	wrong(t, "rising", laid([]string{a, b, c}, l), api.OK)
	wrong(t, "two", laid([]string{a, c}, l), api.OK)
	for _, names := range [][]string{
		{b, a, c}, {a, c, b}, {c, b, a}, {a, a, c}, {a, c, c}, {a, a}, {b, a}, {a, strings.ToUpper(b)}, {"x", a}, {a, "x"}, {a, b + "0"}, {a, b[:48]},
		{a, "pack-" + strings.Repeat("0", 40) + ".pac"}, {a, strings.Repeat("z", 49)}, {a, "pack-" + strings.Repeat("A", 40) + ".idx"}, {a + "\x00" + b, c},
		{a, "pack-" + strings.Repeat("\x00", 40) + ".idx"}, {a, ""}, {"", ""}, {a, strings.Repeat("\x00", 49)},
	} {
		wrong(t, strings.Join(names, " "), laid(names, l), api.ErrForm)
	}
	three := laid([]string{a, b, c}, l)
	for at := 72; at < 72+152; at++ {
		for _, v := range []byte{0, 1, '0', 'A', 'g', 255} {
			turned := bytes.Clone(three)
			turned[at] = v
			checkOpen(t, resealed(turned))
		}
	}
	for _, at := range []int{72 + 49, 72 + 99, 72 + 149, 72 + 150, 72 + 151} { // what ends a name, and what fills the chunk
		turned := bytes.Clone(three)
		turned[at] = 1
		wrong(t, "no byte 0", resealed(turned), api.ErrForm)
	}
}

// TestP1801OpenFanout: each number of the fanout set to what it is not.
func TestP1801OpenFanout(t *testing.T) {
	b := fewBytes(t)
	for i := range 256 {
		is := binary.BigEndian.Uint32(b[fewFan+4*i:])
		for _, n := range []uint32{0, 1, 2, 3, 4, 5, 6, 2049, 1 << 31, 1<<32 - 1} {
			want := api.ErrForm
			if n == is {
				want = api.OK
			}
			wrong(t, "fanout", set(b, fewFan+4*i, n), want)
		}
	}
}

// TestP1801OpenIDs: IDs that do not rise.
func TestP1801OpenIDs(t *testing.T) {
	names := []string{named(1), named(2)}
	a, b, c := told{api.ID{9, 1}, 0, 12}, told{api.ID{9, 2}, 1, 30}, told{api.ID{10}, 0, 50}
	other := told{api.ID{9, 1}, 1, 70} // a's, in another pack
	wrong(t, "rising", laid(names, []told{a, b, c}), api.OK)
	for _, l := range [][]told{{b, a, c}, {a, c, b}, {c, b, a}, {a, a, c}, {a, b, b}, {a, a}, {c, c, c}, {a, other}, {other, a}, {a, other, c}, {b, c, other}} {
		wrong(t, "not rising", laid(names, l), api.ErrForm)
	}
}

// TestP1801OpenPlaces: numbers of packs that are there and that are not, and places at their bounds and beside them.
func TestP1801OpenPlaces(t *testing.T) {
	b := fewBytes(t)
	for i := range 5 {
		for _, n := range []uint32{0, 1, 2, 3, 4, 5, 63, 64, 255, 256, 1<<31 - 1, 1 << 31, 1<<31 + 1, 1<<32 - 1} {
			inside, small := api.ErrForm, api.ErrForm
			if n < 4 {
				inside = api.OK
			}
			if n < 1<<31 {
				small = api.OK
			}
			wrong(t, "a pack's number", set(b, fewPlaces+8*i, n), inside)
			wrong(t, "a place", set(b, fewPlaces+8*i+4, n), small)
		}
	}
}

// TestP1801OpenOther: an index may tell the pack that has not the least name, since that one may be without the ID.
func TestP1801OpenOther(t *testing.T) {
	names := []string{named(1), named(2), named(3)}
	b := laid(names, []told{{api.ID{1}, 2, 5}, {api.ID{2}, 2, 6}})
	wrong(t, "the last pack", b, api.OK)
	made, err := midx.Build([]midx.Pack{{Name: names[0]}, {Name: names[1]}, {Name: names[2], Rows: []idx.Row{row(6, 2), row(5, 1)}}})
	if err != api.OK || !bytes.Equal(made, b) {
		t.Errorf("%v, %x", err, made)
	}
}

// TestP1801OpenRandom: indexes of which a few bytes were spoilt.
func TestP1801OpenRandom(t *testing.T) {
	random := rand.New(rand.NewSource(1802))
	counts := map[api.Errno]int{}
	for range 4000 {
		b, err := midx.Build(somePacks(random))
		if err != api.OK {
			continue
		}
		for range random.Intn(3) {
			b[8+random.Intn(len(b)-8)] ^= 1 << random.Intn(8)
		}
		switch random.Intn(4) {
		case 0:
			b = b[:len(b)-random.Intn(30)]
		case 1:
			b = append(b, make([]byte, random.Intn(30))...)
		}
		if random.Intn(8) > 0 {
			b = resealed(b)
		}
		counts[checkOpen(t, b)]++
	}
	if counts[api.OK] < 300 || counts[api.ErrForm] < 300 || counts[api.ErrSum] < 100 {
		t.Errorf("%v", counts)
	}
}

// FuzzP1801Open: what stands behind the front and ahead of the sum is any bytes.
func FuzzP1801Open(f *testing.F) {
	for _, b := range [][]byte{fewBytes(f), laid(nil, nil), laid([]string{named(1)}, []told{{api.ID{7}, 0, 9}})} {
		f.Add(b[8:len(b)-20], true)
		f.Add(b, false)
	}
	f.Fuzz(func(t *testing.T, b []byte, seal bool) {
		if seal {
			b = sealed(append([]byte("MIDX\x01\x01\x04\x00"), b...))
		}
		checkOpen(t, b)
	})
}

// FuzzP1801Build: packs of rows of eight bytes each: which pack, what begins the ID, and the place.
func FuzzP1801Build(f *testing.F) {
	f.Add([]byte("some words that are no rows, yet rows can be made of any bytes that there are"), 8, "x")
	f.Add(make([]byte, 90), 3, named(7))
	f.Fuzz(func(t *testing.T, b []byte, n int, name string) {
		packs := packsOf(1 + (n&127)%70)
		for len(b) >= 8 {
			at := int(int32(binary.BigEndian.Uint32(b[4:])))
			if b[1]&1 == 0 {
				at &= 1<<31 - 1
			}
			p := &packs[int(b[0])%len(packs)]
			p.Rows = append(p.Rows, row(at, b[2], b[3]))
			b = b[8:]
		}
		if n < 0 {
			packs[len(packs)/2].Name = name
		}
		checkBuild(t, packs)
	})
}
