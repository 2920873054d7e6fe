package midx_test

import (
	"bytes"
	"encoding/binary"
	"fmt"
	"math"
	"math/rand"
	"slices"
	"strings"
	"testing"

	"trove/api"
	"trove/idx"
	"trove/midx"
)

// named answers the name of an index, unlike for each n.
func named(n int) string { return fmt.Sprintf("pack-%040x.idx", n) }

// row answers a row by the front of its name.
func row(at int, front ...byte) idx.Row {
	r := idx.Row{At: at, Crc: uint32(at) * 7}
	copy(r.ID[:], front)
	return r
}

// few: packs in an order that is not that of their names, whose rows are not in order either; 7 is in all but one, 9 in two.
func few() []midx.Pack {
	return []midx.Pack{
		{Name: named(7), Rows: []idx.Row{row(12, 7), row(5, 255, 0, 255), row(math.MaxInt32, 7, 1)}},
		{Name: named(1 << 40)},
		{Name: named(3), Rows: []idx.Row{row(900, 9), row(800, 7)}},
		{Name: named(5), Rows: []idx.Row{row(1, 7), row(2, 9), row(0, 0)}},
	}
}

func fewBytes(t testing.TB) []byte {
	t.Helper()
	b, err := midx.Build(few())
	if err != api.OK {
		t.Fatal(err)
	}
	return b
}

// many answers n rows of which the names are spread over first bytes and begin alike too; unlike ones for each from.
func many(from, n int) []idx.Row {
	random := rand.New(rand.NewSource(int64(from)))
	rows := make([]idx.Row, n)
	for i := range rows {
		rows[i] = row(40*i, byte(random.Intn(256)))
		binary.BigEndian.PutUint32(rows[i].ID[16:], uint32(from+i))
	}
	return rows
}

// packsOf answers n packs, of no rows.
func packsOf(n int) []midx.Pack {
	var l []midx.Pack
	for i := range n {
		l = append(l, midx.Pack{Name: named(i * 1000)})
	}
	return l
}

// TestP1801ByHand: an index whose every byte is written out.
func TestP1801ByHand(t *testing.T) {
	id := func(first byte) []byte { return append([]byte{first}, bytes.Repeat([]byte{0xAB}, 19)...) }
	low, mid, high := "pack-"+strings.Repeat("0", 40)+".idx", "pack-0123456789abcdef0123456789abcdef01234567.idx", "pack-"+strings.Repeat("f", 40)+".idx"
	b := []byte("MIDX\x01\x01\x04\x00\x00\x00\x00\x03")
	b = append(b, "PNAM\x00\x00\x00\x00\x00\x00\x00\x48"...) // 72
	b = append(b, "OIDF\x00\x00\x00\x00\x00\x00\x00\xE0"...) // 72 and 152
	b = append(b, "OIDL\x00\x00\x00\x00\x00\x00\x04\xE0"...) // and 1024
	b = append(b, "OOFF\x00\x00\x00\x00\x00\x00\x05\x1C"...) // and 60
	b = append(b, "\x00\x00\x00\x00\x00\x00\x00\x00\x00\x00\x05\x34"...)
	b = append(b, low+"\x00"+mid+"\x00"+high+"\x00\x00\x00"...)
	for first := range 256 {
		switch {
		case first < 3:
			b = append(b, 0, 0, 0, 0)
		case first < 0x70:
			b = append(b, 0, 0, 0, 1)
		case first < 0xF1:
			b = append(b, 0, 0, 0, 2)
		default:
			b = append(b, 0, 0, 0, 3)
		}
	}
	b = slices.Concat(b, id(3), id(0x70), id(0xF1))
	b = append(b, 0, 0, 0, 2, 0, 0, 0, 0)
	b = append(b, 0, 0, 0, 1, 0x7F, 0xFF, 0xFF, 0xFF)
	b = append(b, 0, 0, 0, 0, 0x01, 0x02, 0x03, 0x04)
	b = sealed(b)
	packs := []midx.Pack{
		{Name: high, Rows: []idx.Row{{ID: api.ID(id(0xF1)), At: 1}, {ID: api.ID(id(0x70)), At: 2}, {ID: api.ID(id(3)), Crc: 0xFFFFFFFF}}},
		{Name: low, Rows: []idx.Row{{ID: api.ID(id(0xF1)), At: 0x01020304}}},
		{Name: mid, Rows: []idx.Row{{ID: api.ID(id(0xF1)), At: 5}, {ID: api.ID(id(0x70)), At: 0x7FFFFFFF, Crc: 8}}},
	}
	for _, order := range [][]int{{0, 1, 2}, {0, 2, 1}, {1, 0, 2}, {1, 2, 0}, {2, 0, 1}, {2, 1, 0}} {
		l := []midx.Pack{packs[order[0]], packs[order[1]], packs[order[2]]}
		if got, err := midx.Build(l); err != api.OK || !bytes.Equal(got, b) {
			t.Errorf("%v: %x, %v, not %x", order, got, err, b)
		}
	}
	x, err := midx.Open(b)
	if err != api.OK || x.Len() != 3 || !slices.Equal(x.Packs(), []string{low, mid, high}) {
		t.Fatal(err)
	}
	if !slices.Equal(x.IDs(), []api.ID{api.ID(id(3)), api.ID(id(0x70)), api.ID(id(0xF1))}) {
		t.Errorf("%x", x.IDs())
	}
	for first, want := range map[byte]midx.Place{3: {high, 0}, 0x70: {mid, 0x7FFFFFFF}, 0xF1: {low, 0x01020304}} {
		if p, is := x.Find(api.ID(id(first))); !is || p != want {
			t.Errorf("%x: %+v, %v", first, p, is)
		}
	}
	if p, is := x.Find(api.ID{3}); is || p != (midx.Place{}) {
		t.Errorf("%+v, %v", p, is)
	}
}

// TestP1801None: no packs, and packs of no rows: how many bytes stand behind their names.
func TestP1801None(t *testing.T) {
	for _, packs := range [][]midx.Pack{nil, {}} {
		if b, err := checkBuild(t, packs); err != api.OK || len(b) != 1116 {
			t.Errorf("%d bytes, %v", len(b), err)
		}
	}
	for n, size := range []int{0, 52, 100, 152, 200, 252} {
		if b, err := checkBuild(t, packsOf(n)); err != api.OK || len(b) != 1116+size {
			t.Errorf("%d packs: %d bytes, %v", n, len(b), err)
		}
	}
	for _, rows := range [][]idx.Row{nil, {}} {
		if _, err := checkBuild(t, []midx.Pack{{Name: named(4), Rows: rows}, {Name: named(2), Rows: []idx.Row{row(1, 1)}}, {Name: named(3), Rows: rows}}); err != api.OK {
			t.Error(err)
		}
	}
}

// orders calls do with each order of l, which is put right again behind it.
func orders[T any](l []T, do func()) {
	if len(l) < 2 {
		do()
		return
	}
	for i := range l {
		l[0], l[i] = l[i], l[0]
		orders(l[1:], do)
		l[0], l[i] = l[i], l[0]
	}
}

// TestP1801Orders: neither the order of the packs nor that of their rows is told.
func TestP1801Orders(t *testing.T) {
	want, packs := fewBytes(t), few()
	orders(packs, func() {
		for _, p := range packs {
			orders(p.Rows, func() {
				if b, err := checkBuild(t, packs); err != api.OK || !bytes.Equal(b, want) {
					t.Fatalf("%+v: %v", packs, err)
				}
			})
		}
	})
}

// TestP1801Several: of an ID in several packs it is the one with the least name, wherever it is handed in and whatever stands there.
func TestP1801Several(t *testing.T) {
	packs := []midx.Pack{
		{Name: named(0x1A), Rows: []idx.Row{row(500, 1), row(0, 2), row(3, 4)}},
		{Name: named(0x9F), Rows: []idx.Row{row(2, 1), row(1, 2), row(9, 3)}},
		{Name: named(0xA0), Rows: []idx.Row{row(0, 1), row(2, 3)}},
		{Name: named(0xB00), Rows: []idx.Row{row(1, 1), row(7, 5), row(1, 2), row(1, 3), row(1, 4)}},
	}
	orders(packs, func() {
		b, err := checkBuild(t, packs)
		if err != api.OK {
			t.Fatal(err)
		}
		x, err := midx.Open(b)
		if err != api.OK || x.Len() != 5 {
			t.Fatal(err)
		}
		for first, want := range map[byte]midx.Place{1: {named(0x1A), 500}, 2: {named(0x1A), 0}, 3: {named(0x9F), 9}, 4: {named(0x1A), 3}, 5: {named(0xB00), 7}} {
			if p, is := x.Find(api.ID{first}); !is || p != want {
				t.Errorf("%d: %+v, %v, not %+v", first, p, is, want)
			}
		}
	})
}

// TestP1801SameAll: packs that all have the same, as many as may be.
func TestP1801SameAll(t *testing.T) {
	packs := packsOf(64)
	for i := range packs {
		packs[i].Rows = many(1, 300)
		for k := range packs[i].Rows {
			packs[i].Rows[k].At += 64 - i
		}
	}
	slices.Reverse(packs)
	b, err := checkBuild(t, packs)
	if err != api.OK || len(b) != 1116+3200+300*28 {
		t.Fatalf("%d bytes, %v", len(b), err)
	}
	x, err := midx.Open(b)
	if err != api.OK {
		t.Fatal(err)
	}
	for _, r := range many(1, 300) {
		if p, is := x.Find(r.ID); !is || p != (midx.Place{Pack: named(0), At: r.At + 64}) {
			t.Fatalf("%+v, %v", p, is)
		}
	}
}

// TestP1801Name: each sign of a name set to each byte, and names that are cut, longer, or of something else.
func TestP1801Name(t *testing.T) {
	name := "pack-0123456789abcdef0123456789abcdef01234567.idx"
	refused := 0
	ask := func(s string, want api.Errno) {
		t.Helper()
		for _, packs := range [][]midx.Pack{{{Name: s}}, append(few(), midx.Pack{Name: s}), append([]midx.Pack{{Name: s, Rows: []idx.Row{row(3, 3)}}}, few()...)} {
			if b, err := checkBuild(t, packs); err != want || (len(b) == 0) != (err != api.OK) {
				t.Errorf("%q: %d bytes, %v", s, len(b), err)
			}
		}
	}
	for at := range name {
		for c := range 256 {
			s := name[:at] + string([]byte{byte(c)}) + name[at+1:]
			want := api.ErrArg
			if byte(c) == name[at] || at >= 5 && at < 45 && strings.IndexByte("0123456789abcdef", byte(c)) >= 0 {
				want = api.OK
			} else {
				refused++
			}
			ask(s, want)
		}
	}
	if refused != 40*240+9*255 {
		t.Errorf("%d were refused", refused)
	}
	for n := range name {
		ask(name[:n], api.ErrArg)
		ask(name[n+1:], api.ErrArg)
		ask(name[:n]+"0"+name[n:], api.ErrArg)
		ask(name[:n]+name[n+1:], api.ErrArg)
	}
	for _, s := range []string{
		"", "x", name + "0", name + "\x00", name + "\n", " " + name, name + name, name + ".idx", "pack/" + name, strings.ToUpper(name), "pack-.idx",
		"pack-" + strings.Repeat("0", 40), strings.Repeat("0", 40) + ".idx", strings.Repeat("0", 40), strings.Repeat("0", 49),
		"pack-" + strings.Repeat("0", 40) + ".pack", "pack-" + strings.Repeat("A", 40) + ".idx", "pack-" + strings.Repeat("g", 40) + ".idx",
		"pack-" + strings.Repeat("é", 20) + ".idx", "pack-" + strings.Repeat("0", 41) + ".idx", "pack-" + strings.Repeat("0", 39) + ".idx",
		"pack-" + strings.Repeat("0", 64) + ".idx", "Pack-" + strings.Repeat("0", 40) + ".idx", "pack-pack-" + strings.Repeat("0", 35) + ".idx",
		"pack-" + strings.Repeat("0", 36) + ".idx.idx", "pack-" + strings.Repeat("0", 5000) + ".idx",
	} {
		ask(s, api.ErrArg)
	}
}

// TestP1801Twice: a name that is there twice, and an ID twice in one pack: wherever they stand.
func TestP1801Twice(t *testing.T) {
	for i, p := range few() {
		for at := range 5 {
			for _, other := range []midx.Pack{p, {Name: p.Name}, {Name: p.Name, Rows: []idx.Row{row(4, 4)}}} {
				if b, err := checkBuild(t, slices.Insert(few(), at, other)); err != api.ErrArg || b != nil {
					t.Errorf("%d, %d: %d bytes, %v", i, at, len(b), err)
				}
			}
		}
		for _, r := range p.Rows {
			for at := range len(p.Rows) + 1 {
				for _, other := range []idx.Row{r, {ID: r.ID}, {ID: r.ID, Crc: 9, At: 77}} {
					packs := few()
					packs[i].Rows = slices.Insert(packs[i].Rows, at, other)
					if b, err := checkBuild(t, packs); err != api.ErrArg || b != nil {
						t.Errorf("%x, %d: %d bytes, %v", r.ID, at, len(b), err)
					}
				}
			}
		}
	}
	if b, err := checkBuild(t, []midx.Pack{{Name: named(1), Rows: make([]idx.Row, 2)}}); err != api.ErrArg || b != nil {
		t.Error(err)
	}
	same := []idx.Row{row(5, 1), row(5, 2), row(5, 3)} // one place, other names
	if _, err := checkBuild(t, []midx.Pack{{Name: named(1), Rows: same}, {Name: named(2), Rows: same}}); err != api.OK {
		t.Error(err)
	}
}

// TestP1801Places: each place that is at a bound or beside it; in a pack, too, whose row is not taken.
func TestP1801Places(t *testing.T) {
	for _, at := range []int{
		math.MinInt, math.MinInt32, -1 << 32, -1, 0, 1, 12, 1<<16 - 1, 1 << 16, 1<<31 - 2, 1<<31 - 1, 1 << 31, 1<<31 + 1,
		1<<32 - 1, 1 << 32, 1<<32 + 12, 1 << 40, math.MaxInt,
	} {
		want := api.OK
		if at < 0 || at > math.MaxInt32 {
			want = api.ErrArg
		}
		alone := []midx.Pack{{Name: named(6), Rows: []idx.Row{row(at, 5)}}}
		behind := append(few(), midx.Pack{Name: named(1 << 60), Rows: []idx.Row{row(3, 8), row(at, 7)}})
		ahead := append(few(), midx.Pack{Name: named(0), Rows: []idx.Row{row(at, 7), row(3, 8)}})
		for _, packs := range [][]midx.Pack{alone, behind, ahead} {
			if b, err := checkBuild(t, packs); err != want || (len(b) == 0) != (want != api.OK) {
				t.Errorf("%d: %d bytes, %v", at, len(b), err)
			}
		}
	}
}

// TestP1801Count: as many packs and IDs as may be, and one more; and what else is wrong goes ahead.
func TestP1801Count(t *testing.T) {
	with := func(n int, rows ...[]idx.Row) []midx.Pack {
		l := packsOf(n)
		for i := range rows {
			l[i*7%n].Rows = rows[i]
		}
		return l
	}
	a, b, c, d := many(0, 512), many(1000, 512), many(2000, 512), many(3000, 512)
	one := many(9000, 1)
	wrong := append(many(7000, 3), row(-1, 3))
	for i, x := range []struct {
		packs []midx.Pack
		err   api.Errno
	}{
		{with(63, a), api.OK}, {with(64, a, b), api.OK}, {with(65, a), api.ErrLong}, {with(65), api.ErrLong}, {with(200), api.ErrLong},
		{with(5, a, b, c, d), api.OK}, {with(64, a, b, c, d), api.OK}, {with(1, slices.Concat(a, b, c, d)), api.OK},
		{with(5, a, b, c, d, one), api.ErrLong}, {with(64, a, b, c, d, one), api.ErrLong}, {with(1, slices.Concat(a, b, c, d, one)), api.ErrLong},
		{with(64, a, b, c, d, a, b, c, d), api.OK}, {with(64, a, b, c, d, d, one), api.ErrLong}, {with(2, slices.Concat(a, b, c, d), slices.Concat(d, c, b)), api.OK},
		{with(6, many(0, 1024), many(512, 1024), many(0, 1)), api.OK}, {with(6, many(0, 2047)), api.OK}, {with(6, many(0, 4000)), api.ErrLong},
		{with(65, wrong), api.ErrArg}, {with(5, a, b, c, d, wrong), api.ErrArg}, {with(5, wrong, a, b, c, d), api.ErrArg},
		{with(5, a, b, c, slices.Concat(d, one, one)), api.ErrArg}, {with(5, a, b, c, d, []idx.Row{row(1<<31, 3)}), api.ErrArg},
		{append(with(65), midx.Pack{Name: named(0)}), api.ErrArg}, {append(with(65), midx.Pack{}), api.ErrArg}, {append(with(64), midx.Pack{Name: named(0)}), api.ErrArg},
	} {
		if b, err := checkBuild(t, x.packs); err != x.err || (len(b) == 0) != (err != api.OK) {
			t.Errorf("%d: %d bytes, %v, not %v", i, len(b), err, x.err)
		}
	}
}

// TestP1801Most: the longest index that there is.
func TestP1801Most(t *testing.T) {
	packs := packsOf(64)
	for i := range packs {
		packs[i].Rows = many(32*i, 32)
	}
	if b, err := checkBuild(t, packs); err != api.OK || len(b) != 1116+3200+2048*28 {
		t.Errorf("%d bytes, %v", len(b), err)
	}
}

// TestP1801Fanout: names of each first byte, of one alone, and unlike in each of their bytes alone.
func TestP1801Fanout(t *testing.T) {
	var each, one, unlike []idx.Row
	for i := range 256 {
		each = append(each, row(i, byte(i)), row(i+1, byte(i), 1))
		one = append(one, row(i, 77, byte(i)))
		checkBuild(t, []midx.Pack{{Name: named(2), Rows: []idx.Row{row(i, byte(i), 5)}}, {Name: named(1), Rows: []idx.Row{row(3, byte(i), 5), row(4, byte(i), 4), row(5, 200)}}})
	}
	for i := range 20 {
		var r idx.Row
		r.ID[i] = 1
		unlike = append(unlike, r)
	}
	checkBuild(t, []midx.Pack{{Name: named(2), Rows: each}, {Name: named(1), Rows: one}, {Name: named(3), Rows: unlike}})
	checkBuild(t, []midx.Pack{{Name: named(2), Rows: one}})
}

func TestP1801Random(t *testing.T) {
	random := rand.New(rand.NewSource(1801))
	for range 600 {
		checkBuild(t, somePacks(random))
	}
}

// somePacks answers packs of which some have the same IDs, and few of which something may not be.
func somePacks(random *rand.Rand) []midx.Pack {
	packs := packsOf(random.Intn(9))
	random.Shuffle(len(packs), func(i, j int) { packs[i], packs[j] = packs[j], packs[i] })
	for i := range packs {
		seen := map[api.ID]bool{}
		for range random.Intn(12) {
			r := row(random.Intn(1<<(1+random.Intn(31))), byte(random.Intn(4)), byte(random.Intn(4)))
			r.ID[19] = byte(random.Intn(3)) * 100
			if !seen[r.ID] || random.Intn(200) == 0 {
				packs[i].Rows = append(packs[i].Rows, r)
			}
			seen[r.ID] = true
		}
	}
	return packs
}

// TestP2Index: neither what is handed in, nor its spare room, is changed or kept; and an answer is nobody else's.
func TestP2Index(t *testing.T) {
	want := fewBytes(t)
	packs := append(few(), midx.Pack{Name: "spare"})
	for i := range packs {
		packs[i].Rows = append(packs[i].Rows, row(99, 99))
	}
	was := cloned(packs)
	handed := slices.Clone(packs)[:4]
	for i := range handed {
		handed[i].Rows = handed[i].Rows[:len(handed[i].Rows)-1]
	}
	b, err := midx.Build(handed)
	if err != api.OK || !bytes.Equal(b, want) || !same(packs, was) {
		t.Fatalf("%v, %x, %+v", err, b, packs)
	}
	clear(handed)
	for _, p := range packs {
		clear(p.Rows)
	}
	room := append(bytes.Clone(b), "spare"...)
	x, err := midx.Open(room[:len(b)])
	if err != api.OK || !bytes.Equal(room, append(bytes.Clone(want), "spare"...)) {
		t.Fatalf("%v, %x", err, room)
	}
	clear(room)
	clear(b[:cap(b)])
	ids, names := x.IDs(), x.Packs()
	clear(ids[:cap(ids)])
	clear(names[:cap(names)])
	right, l, err := slowOpen(want)
	if err != api.OK {
		t.Fatal(err)
	}
	checkIndex(t, x, right, l)
	if again := fewBytes(t); !bytes.Equal(again, want) {
		t.Error("Build answers what is kept")
	}
}

// TestP3Index: what was asked ahead changes no answer.
func TestP3Index(t *testing.T) {
	b := fewBytes(t)
	for range 3 {
		checkOpen(t, b)
		checkOpen(t, b[:40])
		checkBuild(t, few())
		checkBuild(t, append(few(), few()...))
	}
	x, err := midx.Open(b)
	if err != api.OK {
		t.Fatal(err)
	}
	y, err := midx.Open(laid(nil, nil)) // one apart
	if err != api.OK || y.Len() != 0 || x.Len() != 5 {
		t.Errorf("%v, %d, %d", err, x.Len(), y.Len())
	}
	names, l, _ := slowOpen(b)
	checkIndex(t, x, names, l)
	checkIndex(t, y, nil, nil)
	checkIndex(t, new(midx.Index), nil, nil) // that nothing opened (P1)
}
