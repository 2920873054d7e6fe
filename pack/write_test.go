package pack_test

import (
	"bytes"
	"math"
	"math/rand"
	"slices"
	"testing"

	"trove/api"
	"trove/entry"
	"trove/pack"
)

// anyEntries: at most so many, of at most so many bytes each, that Write takes.
func anyEntries(random *rand.Rand, count, size int) []entry.Entry {
	var l []entry.Entry
	for i := range random.Intn(count + 1) {
		kinds := []int{1, 2, 3, 4, 7, 6, 6, 6}
		if i == 0 {
			kinds = kinds[:5]
		}
		e := entry.Entry{Kind: kinds[random.Intn(len(kinds))], Data: noise(random, random.Intn(size+1), 1+random.Intn(256))}
		if e.Kind == entry.Ofs {
			e.Back = 1 + random.Intn(i)
		}
		copy(e.Base[:], noise(random, 20, 256))
		l = append(l, e)
	}
	return l
}

func efforts() []int { return []int{math.MinInt, -1, 0, 1, 2, 9, math.MaxInt} }

func TestP1502Write(t *testing.T) {
	for _, l := range [][]entry.Entry{
		nil, {}, {blob("")}, {blob("one")}, {blob("one"), blob("one")}, fewEntries(),
		{blob("one"), ofs(1, "d")},
		{blob("one"), blob("two"), ofs(1, "d")},
		{blob("one"), blob("two"), ofs(2, "d")},
		{blob("one"), ofs(1, "d"), ofs(1, "d"), ofs(1, "d"), ofs(4, "d")},
		{ref(1, "d"), ofs(1, "d")},
		{ref(1, "d"), ref(1, "d")},
		// What an entry's kind does not have is not written, and what is told of its place, and its Size, are not asked.
		{{Kind: api.Blob, Back: 300, Base: api.ID{5}, Data: []byte("hi")}},
		{{Kind: api.Blob, Back: -1, Data: []byte("hi")}, {Kind: entry.Ofs, Back: 1, Base: api.ID{5}}},
		{{Kind: entry.Ref, Back: 7, Base: api.ID{5}, Data: []byte("hi")}},
		{{Kind: api.Blob, Size: 77, At: -1, Len: 99, Crc: 5, Data: []byte("hi")}, {Kind: api.Tree, Size: math.MaxInt, At: math.MaxInt, Len: math.MinInt}},
	} {
		for _, effort := range efforts() {
			checkWrite(t, l, effort)
		}
	}
}

// TestP1502Places: where entries begin, by hand.
func TestP1502Places(t *testing.T) {
	hi := len(piece(t, blob("hi"), 0))
	b, at, err := pack.Write([]entry.Entry{blob("hi"), blob("hi"), ofs(2, "hi"), ref(1, "hi"), blob("hi")}, 0)
	if want := []int{12, 12 + hi, 12 + 2*hi, 13 + 3*hi, 33 + 4*hi}; !slices.Equal(at, want) || err != api.OK {
		t.Errorf("%v, %v, not %v", at, err, want)
	}
	if len(b) != 33+5*hi+20 {
		t.Errorf("%d bytes", len(b))
	}
	if l, _ := pack.Read(b); l[2].Back != 2*hi {
		t.Errorf("%d back", l[2].Back)
	}
}

// TestP1502Backs: every base that each entry may have.
func TestP1502Backs(t *testing.T) {
	for i := range 12 {
		for back := 1; back <= i; back++ {
			l := slices.Repeat([]entry.Entry{blob("some bytes")}, 12)
			l[i] = ofs(back, "d")
			checkWrite(t, l, 1)
		}
	}
	// A base so far ahead that its place has two and three bytes.
	random := rand.New(rand.NewSource(1504))
	l := []entry.Entry{blob("base"), blob(string(noise(random, 16384, 256))), ofs(2, "d"), blob(string(noise(random, 16384, 256))), ofs(4, "d"), ofs(1, "d")}
	checkWrite(t, l, 1)
}

// refused demands that Write answers this error of l, with any effort.
func refused(t *testing.T, what string, l []entry.Entry, want api.Errno) {
	t.Helper()
	for _, effort := range []int{math.MinInt, 0, 1, 9} {
		if b, at, err := pack.Write(l, effort); len(b) != 0 || len(at) != 0 || err != want {
			t.Errorf("%s, effort %d: %d bytes, %d places, %v, not %v", what, effort, len(b), len(at), err, want)
		}
	}
}

func wrongEntries() map[string]entry.Entry {
	return map[string]entry.Entry{
		"kind 0":        {},
		"kind 5":        {Kind: 5},
		"kind 8":        {Kind: 8},
		"kind -1":       {Kind: -1},
		"kind 16+3":     {Kind: 19},
		"greatest kind": {Kind: math.MaxInt},
		"Back 0":        ofs(0, "d"),
		"Back -1":       ofs(-1, "d"),
		"least Back":    ofs(math.MinInt, "d"),
		"Back 2":        ofs(2, "d"),
		"greatest Back": ofs(math.MaxInt, "d"),
		"too long":      blob(string(make([]byte, api.MaxObject+1))),
		"a long Ref":    ref(1, string(make([]byte, api.MaxObject+1))),
		"longer still":  {Kind: api.Tree, Data: make([]byte, api.MaxFile+1)},
	}
}

func TestP1502WrongEntries(t *testing.T) {
	for what, e := range wrongEntries() {
		refused(t, what, []entry.Entry{e}, api.ErrArg)
		refused(t, what+" behind one", []entry.Entry{blob("one"), e}, api.ErrArg)
		refused(t, what+" ahead of one", []entry.Entry{e, blob("one")}, api.ErrArg)
	}
	refused(t, "leads ahead of the first", []entry.Entry{ofs(1, "d")}, api.ErrArg)
	refused(t, "leads ahead of the first", []entry.Entry{blob("one"), ofs(1, "d"), ofs(3, "d")}, api.ErrArg)
	// Bytes, not entries, would be so many.
	refused(t, "Back in bytes", []entry.Entry{blob("one"), ofs(12, "d")}, api.ErrArg)
	checkWrite(t, []entry.Entry{blob("one"), ofs(1, "d"), ofs(2, "d")}, 1)
	checkWrite(t, []entry.Entry{blob(string(make([]byte, api.MaxObject)))}, 1)
}

func TestP1502Count(t *testing.T) {
	many := slices.Repeat([]entry.Entry{blob("")}, api.MaxCount+1)
	checkWrite(t, many[1:], 0)
	refused(t, "one more", many, api.ErrLong)
	refused(t, "twice as many", slices.Repeat(many, 2), api.ErrLong)
	many[api.MaxCount] = ofs(api.MaxCount, "d")
	refused(t, "one more, whose base is the first", many, api.ErrLong)
	many[api.MaxCount-1] = ofs(api.MaxCount-1, "d")
	checkWrite(t, many[:api.MaxCount], 0)
}

// long: entries that make a pack of n bytes, with any effort (n near MaxPack).
func long(n int) []entry.Entry {
	random := rand.New(rand.NewSource(1505))
	var l []entry.Entry
	for n -= 32; n > 0; {
		size := min(n-14, 16384) // a head of three bytes, a frame of six, a block's five
		l = append(l, blob(string(noise(random, size, 256))))
		n -= size + 14
	}
	return l
}

func TestP1502Long(t *testing.T) {
	for _, effort := range []int{math.MinInt, 0, 1, 9} {
		for more := -2; more <= 2; more++ {
			b, at, err := pack.Write(long(api.MaxPack+more), effort)
			if more <= 0 && (len(b) != api.MaxPack+more || len(at) != 8 || err != api.OK) {
				t.Errorf("%d of MaxPack: %d bytes, %v", more, len(b), err)
			}
			if more > 0 && (len(b) != 0 || len(at) != 0 || err != api.ErrLong) {
				t.Errorf("%d of MaxPack: %d bytes, %v", more, len(b), err)
			}
		}
	}
	checkWrite(t, long(api.MaxPack), 1)
	refused(t, "far more", slices.Repeat(long(api.MaxPack), 2), api.ErrLong)
}

// TestP1502LongByEffort: whether it is too long hangs on effort.
func TestP1502LongByEffort(t *testing.T) {
	l := slices.Repeat([]entry.Entry{blob(string(make([]byte, api.MaxObject)))}, 20)
	checkWrite(t, l, 9)
	random := rand.New(rand.NewSource(1506))
	l = nil
	for range 20 {
		l = append(l, blob(string(bytes.Repeat(noise(random, 1<<10, 256), 16))))
	}
	checkWrite(t, l, 9)
	if b, at, err := pack.Write(l, 0); len(b) != 0 || len(at) != 0 || err != api.ErrLong {
		t.Errorf("%d bytes, %v", len(b), err)
	}
}

// TestP1502Order: what may not be goes ahead of what is too long, wherever it stands.
func TestP1502Order(t *testing.T) {
	many := slices.Repeat([]entry.Entry{blob("")}, api.MaxCount)
	bytesTooMany := long(api.MaxPack + 1)
	for what, e := range wrongEntries() {
		if what == "Back 2" {
			continue // leads to an entry, behind so many
		}
		refused(t, what+" as one too many", append(slices.Clone(many), e), api.ErrArg)
		refused(t, what+" of too many", slices.Concat([]entry.Entry{e}, many, many), api.ErrArg)
		refused(t, what+" behind too many bytes", append(slices.Clone(bytesTooMany), e), api.ErrArg)
	}
	refused(t, "one that leads too far behind too many", append(slices.Clone(many), ofs(api.MaxCount+1, "")), api.ErrArg)
}

// TestP1502Fits: 100000 bytes of Data, with 40 more for each entry, always find room.
func TestP1502Fits(t *testing.T) {
	random := rand.New(rand.NewSource(1507))
	for _, count := range []int{7, 8, 50, 300, 512} {
		for _, kind := range []int{api.Blob, entry.Ofs, entry.Ref} {
			all := noise(random, 100000-40*count, 256)
			var l []entry.Entry
			for i := range count {
				e := entry.Entry{Kind: kind, Back: max(1, i), Data: all[len(all)*i/count : len(all)*(i+1)/count]}
				if i == 0 && kind == entry.Ofs {
					e.Kind = entry.Ref
				}
				l = append(l, e)
			}
			for _, effort := range []int{0, 1} {
				if b, at, err := pack.Write(l, effort); len(b) == 0 || len(b) >= api.MaxPack || len(at) != count || err != api.OK {
					t.Errorf("%d entries, kind %d, effort %d: %d bytes, %v", count, kind, effort, len(b), err)
				}
			}
		}
	}
}

func TestP1502Random(t *testing.T) {
	random := rand.New(rand.NewSource(1508))
	for range 300 {
		checkWrite(t, anyEntries(random, 1+random.Intn(20), 1<<random.Intn(9)), random.Intn(5)-1)
	}
	for range 4 {
		checkWrite(t, anyEntries(random, 100, 800), random.Intn(3))
	}
}

// TestP1502IterOfWhatIsNone: neither the ones that could be read, nor any other.
func TestP1502IterOfWhatIsNone(t *testing.T) {
	good := piece(t, blob("good"), 1)
	for _, b := range [][]byte{nil, {}, raw(3, good, good), raw(1, good, good), raw(3, good, good, []byte{0}), append(raw(1, good), 0), raw(2, good, piece(t, ofs(1, "d"), 1))} {
		for place, e := range pack.Iter(b) {
			t.Errorf("Iter(%x): %d, %+v", b, place, e)
		}
	}
}

// TestP7Iter: it goes over the bytes as they were, again and again, within itself too, whatever was written over what it told.
func TestP7Iter(t *testing.T) {
	b, _, _ := pack.Write(fewEntries(), 1)
	want, _ := pack.Read(b)
	seq := pack.Iter(b)
	spoil(b)
	for range 3 {
		n := 0
		for place, e := range seq {
			if place != n || !sameEntry(e, want[n]) {
				t.Fatalf("%d: %+v, not %+v", place, e, want[n])
			}
			spoil(e.Data)
			n++
		}
		if n != len(want) {
			t.Fatalf("%d of %d", n, len(want))
		}
	}
	pairs := 0
	for i, e := range seq {
		for k, x := range seq {
			if !sameEntry(e, want[i]) || !sameEntry(x, want[k]) {
				t.Fatalf("%d, %d: %+v, %+v", i, k, e, x)
			}
			pairs++
		}
	}
	if pairs != len(want)*len(want) {
		t.Errorf("%d pairs", pairs)
	}
	// What was no pack when the sequence was made has none, though it is one by now.
	whole, _, _ := pack.Write(fewEntries(), 1)
	late := bytes.Clone(whole)
	late[0]++
	seq = pack.Iter(late)
	late[0]--
	for place := range seq {
		t.Errorf("%d of what was no pack", place)
	}
}

// copies answers l with bytes of its own, which have spare room.
func copies(l []entry.Entry) []entry.Entry {
	l = slices.Clone(l)
	for i, e := range l {
		l[i].Data = append(make([]byte, 0, len(e.Data)+9), e.Data...)
		copy(l[i].Data[len(e.Data):len(e.Data)+9], "spare ...")
	}
	return l
}

// TestP2Write: neither what is handed in, nor its spare room, is changed or kept; and an answer is nobody else's.
func TestP2Write(t *testing.T) {
	l := copies(fewEntries())
	room := append(slices.Clone(l), blob("spare"))
	b, at, _ := pack.Write(room[:len(l)], 1)
	other, otherAt, _ := pack.Write(room[:len(l)], 1)
	if !bytes.Equal(b, other) || !slices.Equal(at, otherAt) {
		t.Fatal("Write answers otherwise")
	}
	if !sameEntries(room, append(copies(fewEntries()), blob("spare"))) {
		t.Fatal("Write changed what it was handed")
	}
	for _, e := range l {
		if string(e.Data[:cap(e.Data)][len(e.Data):len(e.Data)+9]) != "spare ..." {
			t.Fatal("Write changed spare room")
		}
		spoil(e.Data)
	}
	wasB, wasAt := bytes.Clone(b), slices.Clone(at)
	spoil(other)
	clear(otherAt[:cap(otherAt)])
	clear(room)
	if !bytes.Equal(b, wasB) || !slices.Equal(at, wasAt) {
		t.Fatal("Write keeps what it was handed, or answers what is kept")
	}
	spoil(b)
	if !slices.Equal(at, wasAt) {
		t.Fatal("the bytes and the places share memory")
	}
}

// TestP2Read: the same of Read, Trailer and Name.
func TestP2Read(t *testing.T) {
	whole, _, _ := pack.Write(fewEntries(), 1)
	room := append(bytes.Clone(whole), "spare"...)
	b := room[:len(whole)]
	l, _ := pack.Read(b)
	other, _ := pack.Read(b)
	id, _ := pack.Trailer(b)
	name, _ := pack.Name(b)
	for range pack.Iter(b) {
	}
	if !bytes.Equal(room, append(bytes.Clone(whole), "spare"...)) {
		t.Fatal("what was handed in was changed")
	}
	spoil(room)
	want, _ := slowRead(whole)
	for _, e := range other {
		spoil(e.Data)
	}
	clear(other[:cap(other)])
	if !sameEntries(l, want) {
		t.Fatal("Read keeps what it was handed, or answers what is kept")
	}
	for i := range l {
		spoil(l[i].Data)
		for k := i + 1; k < len(l); k++ {
			if !sameEntry(l[k], want[k]) {
				t.Fatal("entries share memory")
			}
		}
	}
	if id != api.ID(whole[len(whole)-20:]) || name == "" {
		t.Fatal("Trailer or Name keeps what it was handed")
	}
	// Spare room is no part of a pack.
	if _, err := pack.Read(whole[:len(whole)-1]); err != api.ErrSum {
		t.Errorf("Read took spare room: %v", err)
	}
	if _, err := pack.Trailer(whole[:19]); err != api.ErrShort {
		t.Errorf("Trailer took spare room: %v", err)
	}
}
