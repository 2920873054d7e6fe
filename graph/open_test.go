package graph_test

import (
	"bytes"
	"encoding/binary"
	"math/rand"
	"slices"
	"testing"

	"trove/api"
	"trove/graph"
)

// wrong demands an answer of Open, which the slow model has too.
func wrong(t testing.TB, what string, b []byte, want api.Errno) {
	t.Helper()
	if err := checkOpen(t, b); err != want {
		t.Errorf("%s: %v, not %v", what, err, want)
	}
}

const none = 0x70000000

// fields answers few's graph field by field.
func fields() ([]told, []uint32) {
	at := func(generation, date uint64) uint64 { return generation<<34 | date }
	return []told{
		{api.ID{0, 19: 1}, api.ID{2}, 3, 2, at(3, 1<<32)},
		{api.ID{3}, api.ID{19: 255}, 4, 1 << 31, at(5, 77)},
		{api.ID{7, 7, 7}, api.ID{1, 19: 1}, none, none, at(1, 1<<34-1)},
		{api.ID{7, 7, 9}, api.ID{2}, 2, none, at(2, 0)},
		{api.ID{255, 3}, api.ID{}, 2, 1<<31 | 3, at(4, 1<<33)},
	}, []uint32{2, 0, 1<<31 | 2, 0, 1<<31 | 3}
}

// TestP1902OpenFields: these fields are those of few, which the tests below change.
func TestP1902OpenFields(t *testing.T) {
	if l, edges := fields(); !bytes.Equal(laid(l, edges), fewBytes(t)) {
		t.Error("fields are not those of few")
	}
}

// TestP1902OpenShort: lengths at the bounds, be the front right or not.
func TestP1902OpenShort(t *testing.T) {
	b := fewBytes(t)
	for n := range 28 {
		wrong(t, "short", b[:n], api.ErrShort)
		wrong(t, "short zeros", make([]byte, n), api.ErrShort)
	}
	wrong(t, "nil", nil, api.ErrShort)
	wrong(t, "28 bytes", b[:28], api.ErrSum)
	wrong(t, "28 zeros", make([]byte, 28), api.ErrForm)
	for _, chunks := range []string{"\x03\x00", "\x04\x00", "\x00\x00", "\xff\x00", "\x03\x01"} {
		wrong(t, "28 bytes, sealed", sealed([]byte("CGPH\x01\x01"+chunks)), api.ErrForm)
	}
}

// TestP1902OpenLong: files at the bound and one longer, be the rest right or not.
func TestP1902OpenLong(t *testing.T) {
	for n, want := range map[int]api.Errno{api.MaxFile - 1: api.ErrForm, api.MaxFile: api.ErrForm, api.MaxFile + 1: api.ErrLong, 2 * api.MaxFile: api.ErrLong} {
		wrong(t, "zeros", make([]byte, n), want)
		b := fewBytes(t)
		wrong(t, "zeros behind", sealed(append(b[:len(b)-20], make([]byte, n-len(b))...)), want)
		if want == api.ErrForm {
			b := fewBytes(t)
			wrong(t, "zeros behind, the sum not right", append(b, make([]byte, n-len(b))...), api.ErrSum)
		}
	}
}

// TestP1902OpenFront: the first six bytes go ahead of the sum, the next two do not.
func TestP1902OpenFront(t *testing.T) {
	b := fewBytes(t)
	for at := range 8 {
		for c := range 256 {
			turned := bytes.Clone(b)
			turned[at] = byte(c)
			bad := api.ErrForm
			if at >= 6 {
				bad = api.ErrSum
			}
			if bytes.Equal(turned, b) {
				bad = api.OK
			}
			wrong(t, "front", turned, bad)
			want := api.ErrForm
			if bytes.Equal(turned, b) {
				want = api.OK
			}
			wrong(t, "front, the sum right", resealed(turned), want)
		}
	}
}

// TestP1902OpenSum: each bit of a graph turned over.
func TestP1902OpenSum(t *testing.T) {
	b := fewBytes(t)
	for bit := range 8 * len(b) {
		turned := bytes.Clone(b)
		turned[bit/8] ^= 1 << (bit % 8)
		want := api.ErrSum
		if bit < 48 {
			want = api.ErrForm
		}
		wrong(t, "a bit", turned, want)
	}
	wrong(t, "a byte more", append(bytes.Clone(b), 0), api.ErrSum)
	wrong(t, "a byte less", b[:len(b)-1], api.ErrSum)
}

// TestP1902OpenBits: each bit ahead of the sum turned over, the sum made right.
func TestP1902OpenBits(t *testing.T) {
	for _, l := range [][]graph.Node{few(), {node(1), node(2, 1), node(3, 1, 2)}, nil} {
		b, err := graph.Build(l)
		if err != api.OK {
			t.Fatal(err)
		}
		counts := map[api.Errno]int{}
		for bit := 48; bit < 8*(len(b)-20); bit++ {
			turned := bytes.Clone(b)
			turned[bit/8] ^= 1 << (bit % 8)
			counts[checkOpen(t, resealed(turned))]++
		}
		// Trees and dates may be any: 194 bits of each commit.
		if counts[api.OK] < 194*len(l) || counts[api.ErrForm] < 8000 || counts[api.OK]+counts[api.ErrForm] != 8*(len(b)-26) {
			t.Errorf("%v", counts)
		}
	}
}

// TestP1902OpenCuts: each length, the sum made right; and a piece of each place left out or put in.
func TestP1902OpenCuts(t *testing.T) {
	b := fewBytes(t)
	body := b[:len(b)-20]
	for n := 8; n < len(body); n++ {
		wrong(t, "cut", sealed(body[:n]), api.ErrForm)
	}
	for n := 1; n < 60; n++ {
		wrong(t, "zeros behind", sealed(append(bytes.Clone(body), make([]byte, n)...)), api.ErrForm)
	}
	for at := 8; at < len(body); at++ {
		for _, n := range []int{1, 4, 8, 12, 20, 36, 56} {
			wrong(t, "left out", sealed(slices.Concat(body[:at], body[min(at+n, len(body)):])), api.ErrForm)
			wrong(t, "put in", sealed(slices.Concat(body[:at], make([]byte, n), body[at:])), api.ErrForm)
		}
	}
}

// TestP1902OpenCount: how many commits there are, of those that are there and that are not.
func TestP1902OpenCount(t *testing.T) {
	b, empty := fewBytes(t), laid(nil, nil)
	for _, n := range []uint32{0, 1, 3, 4, 6, 7, 261, 1023, 1024, 1025, 1 << 16, 1<<31 - 1, 1 << 31, 1<<32 - 1} {
		wrong(t, "another number of commits", set(b, fewFan+1020, n), api.ErrForm)
		if n > 0 {
			wrong(t, "commits of none", set(empty, 56+1020, n), api.ErrForm)
		}
	}
}

// TestP1902OpenMany: as many commits as Build makes, and one more, all of them there.
func TestP1902OpenMany(t *testing.T) {
	l := make([]told, 1025)
	for i := range l {
		binary.BigEndian.PutUint16(l[i].id[:], uint16(i*31))
		l[i].first, l[i].second, l[i].last = none, none, 1<<34|uint64(i)
	}
	wrong(t, "1024", laid(l[:1024], nil), api.OK)
	wrong(t, "1025", laid(l, nil), api.ErrForm)
}

// TestP1902OpenTable: each number of the table set to what it is not, and its letters in other orders.
func TestP1902OpenTable(t *testing.T) {
	b := fewBytes(t)
	for i := range 5 {
		at := 8 + 12*i
		is := binary.BigEndian.Uint64(b[at+4:])
		for _, n := range []uint64{0, 8, 56, 68, is - 4, is - 1, is + 1, is + 4, uint64(len(b)), 1 << 31, 1<<32 + is, 1<<63 - 1, 1<<63 + is, 1<<64 - 1} {
			turned := bytes.Clone(b)
			binary.BigEndian.PutUint64(turned[at+4:], n)
			want := api.ErrForm
			if n == is {
				want = api.OK
			}
			wrong(t, "a place", resealed(turned), want)
		}
		for k := range i {
			turned := bytes.Clone(b)
			copy(turned[at:], b[8+12*k:20+12*k])
			copy(turned[8+12*k:], b[at:at+12])
			wrong(t, "rows of the table turned round", resealed(turned), api.ErrForm)
		}
		for _, letters := range []string{"OIDF", "OIDL", "CDAT", "EDGE", "GDA2", "BASE", "edge", "\x00\x00\x00\x00"} {
			turned := bytes.Clone(b)
			copy(turned[at:], letters)
			want := api.ErrForm
			if bytes.Equal(turned, b) {
				want = api.OK
			}
			wrong(t, "letters", resealed(turned), want)
		}
	}
}

// chunked answers a graph of these chunks, in this order.
func chunked(order []string, pieces map[string][]byte) []byte {
	b, body, at := []byte{67, 71, 80, 72, 1, 1, byte(len(order)), 0}, []byte(nil), 20+12*len(order)
	for _, letters := range order {
		b = binary.BigEndian.AppendUint64(append(b, letters...), uint64(at))
		body = append(body, pieces[letters]...)
		at += len(pieces[letters])
	}
	b = binary.BigEndian.AppendUint64(append(b, 0, 0, 0, 0), uint64(at))
	return sealed(append(b, body...))
}

// TestP1902OpenChunks: chunks whose places are right, yet not just those that Build has, in its order.
func TestP1902OpenChunks(t *testing.T) {
	b := fewBytes(t)
	pieces := map[string][]byte{"OIDF": b[fewFan:fewIDs], "OIDL": b[fewIDs:fewData], "CDAT": b[fewData:fewEdges], "EDGE": b[fewEdges : len(b)-20], "GDA2": make([]byte, 20)}
	order := []string{"OIDF", "OIDL", "CDAT", "EDGE"}
	ways := 0
	orders(order, func() {
		if checkOpen(t, chunked(order, pieces)) == api.OK {
			ways++
		}
		for n := range 4 {
			wrong(t, "too few", chunked(order[:n], pieces), api.ErrForm)
		}
	})
	if ways != 1 {
		t.Errorf("%d orders are right", ways)
	}
	for at := range 5 {
		wrong(t, "one more", chunked(slices.Insert(slices.Clone(order), at, "GDA2"), pieces), api.ErrForm)
		wrong(t, "one twice", chunked(slices.Insert(slices.Clone(order), at, "EDGE"), pieces), api.ErrForm)
	}
	plain, err := graph.Build([]graph.Node{node(1), node(2, 1)})
	if err != api.OK {
		t.Fatal(err)
	}
	pieces = map[string][]byte{"OIDF": plain[56:1080], "OIDL": plain[1080:1120], "CDAT": plain[1120:1192]}
	wrong(t, "three", chunked(order[:3], pieces), api.OK)
	wrong(t, "an EDGE of nothing", chunked(order, pieces), api.ErrForm)
	pieces["EDGE"] = []byte{0x80, 0, 0, 0}
	wrong(t, "an EDGE that nobody has", chunked(order, pieces), api.ErrForm)
}

// TestP1902OpenFanout: each number of the fanout set to what it is not.
func TestP1902OpenFanout(t *testing.T) {
	b := fewBytes(t)
	for i := range 256 {
		is := binary.BigEndian.Uint32(b[fewFan+4*i:])
		for _, n := range []uint32{0, 1, 2, 3, 4, 5, 6, 1025, 1 << 31, 1<<32 - 1} {
			want := api.ErrForm
			if n == is {
				want = api.OK
			}
			wrong(t, "fanout", set(b, fewFan+4*i, n), want)
		}
	}
}

// TestP1902OpenIDs: IDs that do not rise.
func TestP1902OpenIDs(t *testing.T) {
	row := func(front ...byte) told {
		x := told{first: none, second: none, last: 1 << 34}
		copy(x.id[:], front)
		return x
	}
	a, b, c := row(9, 1), row(9, 2), row(10)
	wrong(t, "rising", laid([]told{a, b, c}, nil), api.OK)
	for _, l := range [][]told{{b, a, c}, {a, c, b}, {c, b, a}, {a, a, c}, {a, b, b}, {a, a}, {c, c, c}} {
		wrong(t, "not rising", laid(l, nil), api.ErrForm)
	}
}

// TestP1902OpenParents: numbers of parents that are there and that are not.
func TestP1902OpenParents(t *testing.T) {
	l, edges := fields()
	for i := range l {
		for _, n := range []uint32{0, 1, 2, 3, 4, 5, 6, 255, 1023, 1024, none - 1, none, none + 1, 1<<31 - 1, 1 << 31, 1<<31 | 1, 1<<31 | 2, 1<<31 | 3, 1<<31 | 4, 1<<31 | 5, 1<<31 | none, 1<<32 - 1} {
			turned := slices.Clone(l)
			turned[i].first = n
			checkOpen(t, laid(turned, edges))
			if n > 4 && (n != none || l[i].first != none) {
				wrong(t, "a first parent", laid(turned, edges), api.ErrForm)
			}
			turned = slices.Clone(l)
			turned[i].second = n
			checkOpen(t, laid(turned, edges))
			if n > 4 && n != none && n != l[i].second {
				wrong(t, "a second parent", laid(turned, edges), api.ErrForm)
			}
		}
		for k := range edges {
			for _, n := range []uint32{0, 1, 2, 3, 4, 5, 1024, none, 1<<31 - 1, 1 << 31, 1<<31 | 1, 1<<31 | 2, 1<<31 | 3, 1<<31 | 4, 1<<31 | 5, 1<<31 | none, 1<<32 - 1} {
				turned := slices.Clone(edges)
				turned[k] = n
				checkOpen(t, laid(l, turned))
				if n&^(1<<31) > 4 || (n^edges[k])>>31 == 1 {
					wrong(t, "a further parent", laid(l, turned), api.ErrForm)
				}
			}
		}
	}
}

// TestP1902OpenSame: parents that are those of few, told otherwise than Build does.
func TestP1902OpenSame(t *testing.T) {
	l, edges := fields()
	change := func(what string, by func(l []told, edges []uint32) []uint32, want api.Errno) {
		t.Helper()
		twin := slices.Clone(l)
		more := by(twin, slices.Clone(edges))
		wrong(t, what, laid(twin, more), want)
	}
	change("nothing", func(l []told, edges []uint32) []uint32 { return edges }, api.OK)
	change("rows in another order", func(l []told, edges []uint32) []uint32 {
		l[1].second, l[4].second = 1<<31|2, 1<<31
		return append(slices.Clone(edges[3:]), edges[:3]...)
	}, api.ErrForm)
	change("a row that two have", func(l []told, edges []uint32) []uint32 {
		l[4].second = 1 << 31
		return edges[:3]
	}, api.ErrForm)
	change("the end of a row that another one has", func(l []told, edges []uint32) []uint32 {
		l[4].second = 1<<31 | 1
		return edges[:3]
	}, api.ErrForm)
	change("a row that nobody has, behind", func(l []told, edges []uint32) []uint32 { return append(edges, 1<<31) }, api.ErrForm)
	change("a row that nobody has, ahead", func(l []told, edges []uint32) []uint32 {
		l[1].second, l[4].second = 1<<31|1, 1<<31|4
		return append([]uint32{1 << 31}, edges...)
	}, api.ErrForm)
	change("a row without an end", func(l []told, edges []uint32) []uint32 {
		edges[4] = 3
		return edges
	}, api.ErrForm)
	change("a second parent in EDGE", func(l []told, edges []uint32) []uint32 {
		l[0].second, l[1].second, l[4].second = 1<<31, 1<<31|1, 1<<31|4
		return append([]uint32{1<<31 | 2}, edges...)
	}, api.ErrForm)
	change("a second parent without a first one", func(l []told, edges []uint32) []uint32 {
		l[3].first, l[3].second = none, 2
		return edges
	}, api.ErrForm)
	change("such a one, of generation 1", func(l []told, edges []uint32) []uint32 {
		l[2].second = 2
		return edges
	}, api.ErrForm)
	change("EDGE without a first one", func(l []told, edges []uint32) []uint32 {
		l[4].first = none
		return edges
	}, api.ErrForm)
}

// TestP1902OpenGenerations: generations that are not those of the parents; dates that are any.
func TestP1902OpenGenerations(t *testing.T) {
	l, edges := fields()
	for i := range l {
		is := l[i].last >> 34
		for _, g := range []uint64{0, 1, 2, 3, 4, 5, 6, 1024, 1<<29 - 1, 1 << 29, 1<<29 | is, 1<<30 - 1} {
			turned, want := slices.Clone(l), api.ErrForm
			turned[i].last = g<<34 | l[i].last&(1<<34-1)
			if g == is {
				want = api.OK
			}
			wrong(t, "a generation", laid(turned, edges), want)
		}
		for _, date := range []uint64{0, 1, 1 << 31, 1<<32 - 1, 1 << 32, 1<<33 | 5, 1<<34 - 1} {
			turned := slices.Clone(l)
			turned[i].last = is<<34 | date
			wrong(t, "a date", laid(turned, edges), api.OK)
		}
	}
}

// TestP1902OpenLoop: commits that lead back to themselves, whatever their generations are.
func TestP1902OpenLoop(t *testing.T) {
	row := func(n int, first, second uint32, generation uint64) told {
		return told{id: id(n), first: first, second: second, last: generation << 34}
	}
	for g := range uint64(5) {
		wrong(t, "itself", laid([]told{row(1, 0, none, g)}, nil), api.ErrForm)
		wrong(t, "itself, second", laid([]told{row(1, none, none, 1), row(2, 0, 1, g)}, nil), api.ErrForm)
		for h := range uint64(5) {
			wrong(t, "two", laid([]told{row(1, 1, none, g), row(2, 0, none, h)}, nil), api.ErrForm)
			wrong(t, "three", laid([]told{row(1, 1, none, g), row(2, 2, none, h), row(3, 0, none, 2)}, nil), api.ErrForm)
		}
	}
}

// TestP1902OpenOften: commits that all have the same long row of EDGE, or such as have no end, are read in time.
func TestP1902OpenOften(t *testing.T) {
	var l []told
	for i := range 1000 {
		l = append(l, told{id: id(i), first: none, second: none, last: 1 << 34})
		if i > 0 {
			l[i].first, l[i].second, l[i].last = 0, 1<<31, 2<<34
		}
	}
	edges := make([]uint32, (api.MaxFile-1112-56*len(l))/4)
	wrong(t, "no end", laid(l, edges), api.ErrForm)
	edges[len(edges)-1] = 1 << 31
	wrong(t, "an end", laid(l, edges), api.ErrForm)
	for i := range edges {
		edges[i] = 1 << 31
	}
	wrong(t, "ends alone", laid(l, edges), api.ErrForm)
}

// TestP1902OpenRandom: graphs of which a few bytes were spoilt.
func TestP1902OpenRandom(t *testing.T) {
	random := rand.New(rand.NewSource(1904))
	counts := map[api.Errno]int{}
	for range 8000 {
		b, err := graph.Build(someNodes(random))
		if err != api.OK {
			continue
		}
		for range random.Intn(3) {
			from := 6
			if random.Intn(2) == 0 {
				from = min(1120, len(b)-1) // behind the fanout, mostly
			}
			b[from+random.Intn(len(b)-from)] ^= 1 << random.Intn(8)
		}
		switch random.Intn(6) {
		case 0:
			b = b[:len(b)-random.Intn(30)]
		case 1:
			b = append(b, make([]byte, random.Intn(30))...)
		}
		if random.Intn(8) > 0 {
			b = resealed(b)
		}
		counts[checkOpen(t, b)]++
	}
	if counts[api.OK] < 2000 || counts[api.ErrForm] < 1500 || counts[api.ErrSum] < 300 {
		t.Errorf("%v", counts)
	}
}

// FuzzP1902Open: what stands behind the front and ahead of the sum is any bytes.
func FuzzP1902Open(f *testing.F) {
	l, edges := fields()
	for _, b := range [][]byte{laid(l, edges), laid(l[2:4], nil), laid(nil, nil)} {
		f.Add(b[6:len(b)-20], true)
		f.Add(b, false)
	}
	f.Fuzz(func(t *testing.T, b []byte, seal bool) {
		if seal {
			b = sealed(append([]byte("CGPH\x01\x01"), b...))
		}
		checkOpen(t, b)
	})
}

// FuzzP1902Fields: commits of three bytes each: two parents, the generation; what of the rest is not used up are rows of EDGE.
func FuzzP1902Fields(f *testing.F) {
	f.Add([]byte{255, 255, 1, 0, 255, 2, 1, 128, 3, 0, 129}, 3)
	f.Add([]byte{255, 255, 1, 0, 0, 2}, 2)
	f.Fuzz(func(t *testing.T, b []byte, n int) {
		wide := func(c byte) uint32 {
			if c == 255 {
				return none
			}
			return uint32(c)>>7<<31 | uint32(c)&127
		}
		var l []told
		var edges []uint32
		for i := 0; len(b) >= 3 && i < n; i++ {
			l = append(l, told{id: id(i), first: wide(b[0]), second: wide(b[1]), last: uint64(b[2]) << 34})
			b = b[3:]
		}
		for _, c := range b {
			edges = append(edges, wide(c))
		}
		checkOpen(t, laid(l, edges))
	})
}

// FuzzP1901: nodes of a byte each with what parents follow in others, be they there or not.
func FuzzP1901(f *testing.F) {
	f.Add([]byte("some words"), 1)
	f.Add([]byte{1, 2, 129, 130, 131, 132, 3, 129, 4}, 1<<34)
	f.Fuzz(func(t *testing.T, b []byte, date int) {
		var l []graph.Node
		for _, c := range b {
			if c < 128 || len(l) == 0 {
				l = append(l, node(int(c&127)))
			} else {
				x := &l[len(l)-1]
				x.Parents = append(x.Parents, id(int(c&127)))
			}
		}
		if len(l) > 0 {
			l[len(l)/2].Date = date
		}
		checkClosed(t, l)
		checkBuild(t, l)
	})
}
