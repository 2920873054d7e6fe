package chain_test

import (
	"bytes"
	"math"
	"math/rand"
	"slices"
	"strconv"
	"testing"

	"trove/api"
	"trove/chain"
	"trove/entry"
	"trove/pack"
)

// inEntries answers entries that pack.Read told with the Back of each Ofs in entries.
func inEntries(l []entry.Entry) []entry.Entry {
	l = slices.Clone(l)
	for i, e := range l {
		if e.Kind == entry.Ofs {
			l[i].Back = i - slices.IndexFunc(l, func(x entry.Entry) bool { return x.At == e.At-e.Back })
		}
	}
	return l
}

// sameBut tells whether an entry is another one but for its place: Back is in entries.
func sameBut(a, b entry.Entry) bool {
	return a.Kind == b.Kind && a.Size == b.Size && a.Back == b.Back && a.Base == b.Base && bytes.Equal(a.Data, b.Data)
}

// checkComplete demands that there is a whole pack of b and these bases, and that it is just that; if the bases are what b needs, it denotes the same.
func checkComplete(t testing.TB, b []byte, bases []chain.Object, effort int) []byte {
	t.Helper()
	got, err := chain.Complete(b, bases, effort)
	if err != api.OK {
		t.Fatalf("Complete(%x, %+v, %d): %v", b, bases, effort, err)
	}
	was, _ := pack.Read(b)
	is, err := pack.Read(got)
	if err != api.OK || len(is) != len(was)+len(bases) {
		t.Fatalf("Complete(%x, %+v, %d): %d entries, not %d and %d; %v", b, bases, effort, len(is), len(was), len(bases), err)
	}
	was, is = inEntries(was), inEntries(is)
	for i, e := range is {
		want := entry.Entry{}
		if i < len(was) {
			want = was[i]
		} else {
			o := bases[i-len(was)]
			want = entry.Entry{Kind: o.Kind, Size: len(o.Data), Data: o.Data}
		}
		if !sameBut(e, want) {
			t.Fatalf("Complete(%x, %+v, %d): %d is %+v, not %+v", b, bases, effort, i, e, want)
		}
	}
	whole, more, err := checkDenote(t, got, none)
	objects, needed, errThin := checkDenote(t, b, holding(bases...))
	if errThin != api.OK || !slices.Equal(needed, ids(bases)) {
		return got
	}
	for _, o := range bases {
		o.Deep = 0
		objects = append(objects, o)
	}
	if err != api.OK || !sameObjects(whole, objects) || len(more) != 0 {
		t.Fatalf("Complete(%x, %+v, %d) denotes %+v, %x, %v, not %+v", b, bases, effort, whole, more, err, objects)
	}
	return got
}

func efforts() []int { return []int{math.MinInt, -1, 0, 1, 2, 9, math.MaxInt} }

func TestP1602Complete(t *testing.T) {
	a, b, c := whole(api.Blob, "a"), whole(api.Blob, "b"), whole(api.Blob, "c")
	commit := whole(api.Commit, kindBytes(api.Commit, "m"))
	tree := whole(api.Tree, kindBytes(api.Tree, "1"))
	deep := a
	deep.Deep = 77 // is not asked
	for _, x := range []struct {
		l     []entry.Entry
		bases []chain.Object
	}{
		{nil, nil},
		{nil, []chain.Object{a}},
		{[]entry.Entry{blob("x")}, nil},
		{[]entry.Entry{blob("x")}, []chain.Object{a, commit, tree}},
		{[]entry.Entry{ref("a", "x")}, []chain.Object{a}},
		{[]entry.Entry{ref("a", "x")}, []chain.Object{deep}},
		{[]entry.Entry{ref("b", "x"), ofs(1, "x", "y"), ref("a", "z")}, []chain.Object{a, b}},
		{[]entry.Entry{ref("b", "x"), ofs(1, "x", "y"), ref("a", "z")}, []chain.Object{b, a}},
		{[]entry.Entry{blob("x"), ofs(1, "x", "y"), ref("c", "d"), ofs(3, "x", "z"), ofs(2, "d", "e"), ref("e", "f")}, []chain.Object{c}},
		{[]entry.Entry{ref("x", "y"), ref("a", "x"), blob("p"), ofs(1, "p", "q")}, []chain.Object{a}},
		{[]entry.Entry{{Kind: entry.Ref, Base: tree.ID, Data: by(string(tree.Data), kindBytes(api.Tree, "2"))}}, []chain.Object{tree}},
		{[]entry.Entry{blob(""), ref("a", "")}, []chain.Object{a, b, c}},
	} {
		for _, effort := range efforts() {
			checkComplete(t, packed(t, x.l...), x.bases, effort)
		}
	}
}

// TestP1602CompleteDeep: the deltas on a base are as deep as they were: the bound stays the bound.
func TestP1602CompleteDeep(t *testing.T) {
	l, _, _ := row(api.MaxChain, entry.Ref)
	b := checkComplete(t, packed(t, l[1:]...), []chain.Object{whole(api.Blob, "0")}, 1)
	if got, _, err := chain.Denote(b, nil); chain.Depth(got) != api.MaxChain || err != api.OK {
		t.Errorf("%d, %v", chain.Depth(got), err)
	}
	l, _, _ = row(api.MaxChain+1, entry.Ref)
	b = checkComplete(t, packed(t, l[1:]...), []chain.Object{whole(api.Blob, "0")}, 1)
	if got, _, err := chain.Denote(b, nil); len(got) != 0 || err != api.ErrLong {
		t.Errorf("one more: %d, %v", len(got), err)
	}
}

// TestP1602CompleteOther: bases that b needs not, has already, or that come twice are put there all the same; and what lacks one is not asked.
func TestP1602CompleteOther(t *testing.T) {
	a, b := whole(api.Blob, "a"), whole(api.Blob, "b")
	for _, x := range []struct {
		l     []entry.Entry
		bases []chain.Object
		err   api.Errno
	}{
		{[]entry.Entry{ref("a", "x")}, nil, api.ErrNone},
		{[]entry.Entry{ref("a", "x")}, []chain.Object{b}, api.ErrNone},
		{[]entry.Entry{ref("a", "x")}, []chain.Object{b, a}, api.OK},
		{[]entry.Entry{ref("a", "x")}, []chain.Object{a, a}, api.ErrForm},
		{[]entry.Entry{blob("a")}, []chain.Object{a}, api.ErrForm},
		{[]entry.Entry{refTo("a", []byte{1, 1, 0})}, []chain.Object{a}, api.ErrForm},
		{[]entry.Entry{blob("x")}, []chain.Object{whole(api.Commit, "no commit")}, api.ErrForm},
	} {
		got := checkComplete(t, packed(t, x.l...), x.bases, 1)
		if l, _, err := chain.Denote(got, nil); err != x.err || (len(l) == 0) != (err != api.OK) {
			t.Errorf("%+v: %d, %v", x, len(l), err)
		}
	}
}

// refused demands that Complete answers this error, with any effort.
func refused(t *testing.T, what string, b []byte, bases []chain.Object, want api.Errno) {
	t.Helper()
	for _, effort := range []int{math.MinInt, 0, 1, 9} {
		if got, err := chain.Complete(b, bases, effort); len(got) != 0 || err != want {
			t.Errorf("%s, effort %d: %d bytes, %v, not %v", what, effort, len(got), err, want)
		}
	}
}

func wrongBases() map[string]chain.Object {
	l := map[string]chain.Object{
		"no name":        {Kind: api.Blob, Data: []byte("a")},
		"another name":   {ID: id("b"), Kind: api.Blob, Data: []byte("a")},
		"another kind":   {ID: id("a"), Kind: api.Commit, Data: []byte("a")},
		"no kind":        {ID: id("a"), Data: []byte("a")},
		"other bytes":    {ID: id("a"), Kind: api.Blob},
		"nothing at all": {},
		"too long":       {ID: id("a"), Kind: api.Blob, Data: make([]byte, api.MaxObject+1)},
	}
	last := whole(api.Blob, "a")
	last.ID[19]++
	l["another last byte"] = last
	for _, kind := range []int{math.MinInt, -1, 0, 5, entry.Ofs, entry.Ref, 8, math.MaxInt} {
		l["kind "+strconv.Itoa(kind)] = whole(kind, "a") // under the name that object.ID answers of it
	}
	return l
}

func TestP1602CompleteWrongBases(t *testing.T) {
	b := packed(t, blob("x"), ref("a", "y"))
	for what, o := range wrongBases() {
		refused(t, what, b, []chain.Object{o}, api.ErrForm)
		refused(t, what+", the last", b, []chain.Object{whole(api.Blob, "a"), o}, api.ErrForm)
		refused(t, what+", the first", b, []chain.Object{o, whole(api.Blob, "a")}, api.ErrForm)
		refused(t, what+", of no entries", packed(t), []chain.Object{o}, api.ErrForm)
	}
}

func TestP1602CompleteWrongPack(t *testing.T) {
	b := packed(t, blob("x"))
	turned := bytes.Clone(b)
	turned[10] = 2
	a := []chain.Object{whole(api.Blob, "a")}
	for _, bases := range [][]chain.Object{nil, a, {{}}} {
		refused(t, "nothing", nil, bases, api.ErrShort)
		refused(t, "31 bytes", b[:31], bases, api.ErrShort)
		refused(t, "cut", b[:len(b)-1], bases, api.ErrSum)
		refused(t, "turned", turned, bases, api.ErrSum)
		refused(t, "too many are said", resealed(turned), bases, api.ErrLong)
		refused(t, "a byte behind", resealed(append(bytes.Clone(b), 0)), bases, api.ErrForm)
		refused(t, "too long", make([]byte, api.MaxPack+1), bases, api.ErrLong)
	}
}

// TestP1602CompleteCount: as many entries as may be, with the bases, and one more.
func TestP1602CompleteCount(t *testing.T) {
	var l []entry.Entry
	for i := range api.MaxCount {
		l = append(l, blob(strconv.Itoa(i)))
	}
	l[0] = ref("a", "x")
	a, b := whole(api.Blob, "a"), whole(api.Blob, "b")
	checkComplete(t, packed(t, l...), nil, 1)
	checkComplete(t, packed(t, l[:api.MaxCount-1]...), []chain.Object{a}, 1)
	checkComplete(t, packed(t, l[:api.MaxCount-2]...), []chain.Object{b, a}, 1)
	refused(t, "one more", packed(t, l...), []chain.Object{a}, api.ErrLong)
	refused(t, "one more of two", packed(t, l[:api.MaxCount-1]...), []chain.Object{a, b}, api.ErrLong)
	refused(t, "bases alone", packed(t), slices.Repeat([]chain.Object{a}, api.MaxCount+1), api.ErrLong)
	for what, o := range wrongBases() {
		refused(t, what+" as one more", packed(t, l...), []chain.Object{o}, api.ErrForm)
		refused(t, what+" behind one more", packed(t, l...), []chain.Object{a, o}, api.ErrForm)
	}
}

// TestP1602CompleteLong: as many bytes as may be, and one more; and a base as long as an object may be, and one more.
func TestP1602CompleteLong(t *testing.T) {
	random := rand.New(rand.NewSource(1604))
	var l []entry.Entry
	for range 7 {
		l = append(l, blob(string(noise(random, api.MaxObject, 256))))
	}
	left := api.MaxPack - len(packed(t, l...)) - 14 // a head of three bytes, a frame of six, a block's five
	for more := -1; more <= 1; more++ {
		o := whole(api.Blob, string(noise(random, left+more, 256)))
		if more > 0 {
			refused(t, "one byte more", packed(t, l...), []chain.Object{o}, api.ErrLong)
		} else if b := checkComplete(t, packed(t, l...), []chain.Object{o}, 1); len(b) != api.MaxPack+more {
			t.Errorf("%d: %d bytes", more, len(b))
		}
	}
	zeros := make([]byte, api.MaxObject+1)
	checkComplete(t, packed(t, blob("x")), []chain.Object{whole(api.Blob, string(zeros[1:]))}, 1)
	long := whole(api.Blob, string(zeros))
	refused(t, "too long an object", packed(t, blob("x")), []chain.Object{long}, api.ErrLong)
	refused(t, "too long an object, the first", packed(t, blob("x")), []chain.Object{long, whole(api.Blob, "a")}, api.ErrLong)
	refused(t, "too long an object, of none", packed(t), []chain.Object{long}, api.ErrLong)
	for what, o := range wrongBases() {
		refused(t, what+" behind too long a one", packed(t), []chain.Object{long, o}, api.ErrForm)
	}
}

// TestP1602CompleteEffort: whether it is too long hangs on effort, as that of pack.Write does.
func TestP1602CompleteEffort(t *testing.T) {
	random := rand.New(rand.NewSource(1605))
	var l []entry.Entry
	for range 20 {
		l = append(l, blob(string(bytes.Repeat(noise(random, 1<<10, 256), 16))))
	}
	b := packed(t, l...)
	a := []chain.Object{whole(api.Blob, "a")}
	checkComplete(t, b, a, 9)
	if got, err := chain.Complete(b, a, 0); len(got) != 0 || err != api.ErrLong {
		t.Errorf("%d bytes, %v", len(got), err)
	}
}

// TestP2Complete: neither what is handed in, nor its spare room, is changed or kept; and an answer is nobody else's.
func TestP2Complete(t *testing.T) {
	thin := packed(t, ref("some bytes", "x"), ofs(1, "x", "y"))
	room := append(bytes.Clone(thin), "spare"...)
	o := whole(api.Blob, "some bytes")
	o.Data = append(o.Data, "spare"...)[:len(o.Data)]
	bases := append([]chain.Object{o}, whole(api.Blob, "spare"))
	got, err := chain.Complete(room[:len(thin)], bases[:1], 1)
	again, _ := chain.Complete(room[:len(thin)], bases[:1], 1)
	if err != api.OK || !bytes.Equal(got, again) {
		t.Fatalf("%x, %x, %v", got, again, err)
	}
	if string(room) != string(thin)+"spare" || string(o.Data[:len(o.Data)+5]) != "some bytesspare" || string(bases[1].Data) != "spare" || !sameObject(bases[0], o) {
		t.Error("what was handed in was changed")
	}
	want := bytes.Clone(got)
	spoil(room)
	spoil(o.Data)
	spoil(again)
	clear(bases)
	if !bytes.Equal(got, want) {
		t.Error("Complete keeps what it was handed, or answers what is kept")
	}
}
