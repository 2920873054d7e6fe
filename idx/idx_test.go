package idx_test

import (
	"bytes"
	"math"
	"math/rand"
	"slices"
	"testing"

	"trove/api"
	"trove/idx"
)

// fewRows: near places and far ones, in an order that is not that of their names.
func fewRows() []idx.Row {
	return []idx.Row{
		{ID: api.ID{7, 1}, Crc: 0x01020304, At: 12},
		{ID: api.ID{255, 0, 255}, Crc: 0xFFFFFFFF, At: 1 << 40},
		{ID: api.ID{7}, Crc: 0x80000000, At: 1 << 31},
		{ID: api.ID{0}, Crc: 0, At: 1<<31 - 1},
		{ID: api.ID{7, 0, 9}, Crc: 9, At: 1<<32 + 5},
	}
}

func fewBytes(t testing.TB) []byte {
	t.Helper()
	b, err := idx.Build(fewRows(), api.ID{1, 2, 3})
	if err != api.OK {
		t.Fatal(err)
	}
	return b
}

// many answers n rows of which the names are spread over first bytes and begin alike too.
func many(n int) []idx.Row {
	random := rand.New(rand.NewSource(int64(n)))
	rows := make([]idx.Row, n)
	for i := range rows {
		rows[i] = idx.Row{ID: api.ID{byte(random.Intn(256)), 19: byte(i)}, Crc: random.Uint32(), At: i * 40}
		rows[i].ID[18] = byte(i >> 8)
	}
	return rows
}

// TestP1701ByHand: an index whose every byte is written out.
func TestP1701ByHand(t *testing.T) {
	name := func(first byte) []byte { return append([]byte{first}, bytes.Repeat([]byte{0xAB}, 19)...) }
	b := []byte{0xFF, 0x74, 0x4F, 0x63, 0, 0, 0, 2}
	for first := range 256 {
		switch {
		case first < 3:
			b = append(b, 0, 0, 0, 0)
		case first < 0x70:
			b = append(b, 0, 0, 0, 1)
		case first < 0xF1:
			b = append(b, 0, 0, 0, 2)
		default:
			b = append(b, 0, 0, 0, 3)
		}
	}
	b = slices.Concat(b, name(3), name(0x70), name(0xF1))
	b = append(b, 1, 2, 3, 4, 0xFF, 0xFE, 0xFD, 0xFC, 0, 0, 0, 0)                        // the sums
	b = append(b, 0x80, 0, 0, 0, 0x7F, 0xFF, 0xFF, 0xFF, 0x80, 0, 0, 1)                  // the places
	b = append(b, 0, 0, 1, 0, 0, 0, 0, 0, 0, 0, 0, 0, 0x80, 0, 0, 0)                     // those of eight bytes
	b = append(b, 20, 19, 18, 17, 16, 15, 14, 13, 12, 11, 10, 9, 8, 7, 6, 5, 4, 3, 2, 1) // the pack's trailer
	b = sealed(b)                                                                        // and the sum of all
	trailer := api.ID{20, 19, 18, 17, 16, 15, 14, 13, 12, 11, 10, 9, 8, 7, 6, 5, 4, 3, 2, 1}
	rows := []idx.Row{
		{ID: api.ID(name(3)), Crc: 0x01020304, At: 1 << 40},
		{ID: api.ID(name(0x70)), Crc: 0xFFFEFDFC, At: 1<<31 - 1},
		{ID: api.ID(name(0xF1)), Crc: 0, At: 1 << 31},
	}
	for _, order := range [][]int{{0, 1, 2}, {0, 2, 1}, {1, 0, 2}, {1, 2, 0}, {2, 0, 1}, {2, 1, 0}} {
		l := []idx.Row{rows[order[0]], rows[order[1]], rows[order[2]]}
		if got, err := idx.Build(l, trailer); err != api.OK || !bytes.Equal(got, b) {
			t.Errorf("%v: %x, %v, not %x", order, got, err, b)
		}
	}
	x, err := idx.Open(b)
	if err != api.OK {
		t.Fatal(err)
	}
	checkIndex(t, x, rows, trailer)
}

// TestP1701None: the least index is one of no rows.
func TestP1701None(t *testing.T) {
	for _, rows := range [][]idx.Row{nil, {}} {
		b, err := checkBuild(t, rows, api.ID{19: 7})
		if err != api.OK || len(b) != 1072 || b[1051] != 7 {
			t.Errorf("%d bytes, %v", len(b), err)
		}
	}
}

// TestP1701Orders: the order of the rows is not told, nor does it change the numbers of the far places.
func TestP1701Orders(t *testing.T) {
	want := fewBytes(t)
	rows := fewRows()
	var turn func(n int)
	turn = func(n int) {
		if n == len(rows) {
			if b, err := checkBuild(t, rows, api.ID{1, 2, 3}); err != api.OK || !bytes.Equal(b, want) {
				t.Fatalf("%+v: %v", rows, err)
			}
			return
		}
		for i := n; i < len(rows); i++ {
			rows[n], rows[i] = rows[i], rows[n]
			turn(n + 1)
			rows[n], rows[i] = rows[i], rows[n]
		}
	}
	turn(0)
}

// TestP1701Places: each place that is at a bound or beside it, alone, ahead of others and behind them.
func TestP1701Places(t *testing.T) {
	for _, at := range []int{
		math.MinInt, math.MinInt32, -1 << 40, -1, 0, 1, 1<<31 - 1, 1 << 31, 1<<31 + 1, 1<<32 - 1, 1 << 32, 1<<32 + 1,
		1<<40 - 1, 1 << 40, 1<<40 + 1, 1 << 41, 1 << 62, math.MaxInt,
	} {
		row := idx.Row{ID: api.ID{5}, Crc: 3, At: at}
		want := api.OK
		if at < 0 || at > 1<<40 {
			want = api.ErrArg
		}
		for _, rows := range [][]idx.Row{{row}, append(fewRows(), row), append([]idx.Row{row}, fewRows()...)} {
			if b, err := checkBuild(t, rows, api.ID{}); err != want || (len(b) == 0) != (want != api.OK) {
				t.Errorf("%d: %d bytes, %v", at, len(b), err)
			}
		}
	}
}

// TestP1701FarOnly: all places of eight bytes, and so many that their numbers have more than a byte.
func TestP1701FarOnly(t *testing.T) {
	rows := many(api.MaxCount)
	for i := range rows {
		rows[i].At += 1 << 31
	}
	if b, err := checkBuild(t, rows, api.ID{}); err != api.OK || len(b) != 1072+36*512 {
		t.Errorf("%d bytes, %v", len(b), err)
	}
}

// TestP1701Same: two rows may have one place and one sum, as the promise does not rule it out; but not one name.
func TestP1701Same(t *testing.T) {
	if _, err := checkBuild(t, []idx.Row{{ID: api.ID{1}, Crc: 1, At: 12}, {ID: api.ID{2}, Crc: 1, At: 12}}, api.ID{}); err != api.OK {
		t.Error(err)
	}
	for i, rows := range [][]idx.Row{
		{{}, {}},
		{{ID: api.ID{1}, At: 12}, {ID: api.ID{1}, At: 13}},
		{{ID: api.ID{1}, Crc: 1}, {ID: api.ID{1}, Crc: 2}},
		{{ID: ff(), At: 1 << 31}, {ID: api.ID{1}}, {ID: api.ID{2}}, {ID: ff()}},
		append(fewRows(), fewRows()[0]),
		append(fewRows(), fewRows()...),
		append([]idx.Row{{ID: api.ID{}, At: 5}}, fewRows()...),
	} {
		if b, err := checkBuild(t, rows, api.ID{}); err != api.ErrArg || len(b) != 0 {
			t.Errorf("%d: %d bytes, %v", i, len(b), err)
		}
	}
}

// TestP1701Count: as many rows as may be, one more, and what else is wrong of these goes ahead.
func TestP1701Count(t *testing.T) {
	for _, c := range []struct {
		rows []idx.Row
		err  api.Errno
	}{
		{many(511), api.OK}, {many(512), api.OK}, {many(513), api.ErrLong}, {many(2000), api.ErrLong},
		{append(many(513), idx.Row{ID: ff(), At: -1}), api.ErrArg}, {append(many(513), idx.Row{ID: ff(), At: 1<<40 + 1}), api.ErrArg},
		{append(many(513), many(513)[512]), api.ErrArg}, {append(many(512), many(512)[0]), api.ErrArg},
	} {
		if b, err := checkBuild(t, c.rows, api.ID{4}); err != c.err || (len(b) == 0) != (err != api.OK) {
			t.Errorf("%d rows: %d bytes, %v, not %v", len(c.rows), len(b), err, c.err)
		}
	}
}

// TestP1701Fanout: names of each first byte, of one alone, and unlike in each of their bytes alone.
func TestP1701Fanout(t *testing.T) {
	var each, one []idx.Row
	for i := range 256 {
		each = append(each, idx.Row{ID: api.ID{byte(i)}, At: i}, idx.Row{ID: api.ID{byte(i), 19: 1}, At: i + 1})
		one = append(one, idx.Row{ID: api.ID{77, 19: byte(i)}, At: i}, idx.Row{ID: api.ID{77, byte(i), 1}, At: i})
	}
	checkBuild(t, each, api.ID{})
	checkBuild(t, one, api.ID{})
	for first := range 256 {
		checkBuild(t, []idx.Row{{ID: api.ID{byte(first), 5}, At: first}}, api.ID{})
		checkBuild(t, []idx.Row{{ID: api.ID{byte(first), 5}}, {ID: api.ID{byte(first), 4}}, {ID: api.ID{200}}}, api.ID{})
	}
	var unlike []idx.Row
	for i := range 20 {
		var id api.ID
		id[i] = 1
		unlike = append(unlike, idx.Row{ID: id, At: i})
	}
	checkBuild(t, unlike, ff())
}

func TestP1701Random(t *testing.T) {
	random := rand.New(rand.NewSource(1701))
	for range 300 {
		rows := make([]idx.Row, random.Intn(40))
		for i := range rows {
			random.Read(rows[i].ID[random.Intn(2)*18:]) // of some names the first bytes are alike
			rows[i].Crc = random.Uint32()
			rows[i].At = random.Intn(1 << (1 + random.Intn(41)))
		}
		checkBuild(t, rows, api.ID{byte(random.Intn(256))})
	}
}

// TestP2Index: neither what is handed in, nor its spare room, is changed or kept; and an answer is nobody else's.
func TestP2Index(t *testing.T) {
	rows := append(fewRows(), idx.Row{ID: api.ID{1}, At: 5})
	was := slices.Clone(rows)
	b, err := idx.Build(rows[:5], api.ID{1, 2, 3})
	if err != api.OK || !slices.Equal(rows, was) {
		t.Fatalf("%v, %+v", err, rows)
	}
	want := bytes.Clone(b)
	clear(rows)
	if !bytes.Equal(b, want) {
		t.Error("Build keeps what it was handed")
	}
	room := append(bytes.Clone(b), "spare"...)
	x, err := idx.Open(room[:len(b)])
	if err != api.OK || !bytes.Equal(room, append(bytes.Clone(want), "spare"...)) {
		t.Fatalf("%v, %x", err, room)
	}
	clear(room)
	clear(b[:cap(b)])
	ids := x.IDs()
	clear(ids[:cap(ids)])
	checkIndex(t, x, sorted(fewRows()), api.ID{1, 2, 3})
	if again, err := idx.Build(fewRows(), api.ID{1, 2, 3}); err != api.OK || !bytes.Equal(again, want) {
		t.Error("Build answers what is kept")
	}
}
