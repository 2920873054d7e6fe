package idx_test

import (
	"bytes"
	"encoding/binary"
	"hash/crc32"
	"math/rand"
	"slices"
	"strconv"
	"testing"

	"trove/api"
	"trove/chain"
	"trove/delta"
	"trove/entry"
	"trove/idx"
	"trove/object"
	"trove/pack"
)

func blob(s string) entry.Entry { return entry.Entry{Kind: api.Blob, Data: []byte(s)} }

func by(from, to string) []byte { return delta.Make([]byte(from), []byte(to), 1) }

// ofs: what makes to of the entry so many ahead, which makes from.
func ofs(back int, from, to string) entry.Entry {
	return entry.Entry{Kind: entry.Ofs, Back: back, Data: by(from, to)}
}

// ref: what makes to of the blob from.
func ref(from, to string) entry.Entry {
	return entry.Entry{Kind: entry.Ref, Base: object.ID(api.Blob, []byte(from)), Data: by(from, to)}
}

func packed(t testing.TB, l ...entry.Entry) []byte {
	t.Helper()
	b, _, err := pack.Write(l, 1)
	if err != api.OK {
		t.Fatal(err)
	}
	return b
}

// slowOf: what the layers below tell of a pack's entries, but for the sums and the trailer, laid out by the slow model.
func slowOf(b []byte) ([]byte, api.Errno) {
	objects, _, err := chain.Denote(b, nil)
	if err != api.OK {
		return nil, err
	}
	l, _ := pack.Read(b)
	var rows []idx.Row
	for i, o := range objects {
		rows = append(rows, idx.Row{ID: object.ID(o.Kind, o.Data), Crc: crc32.ChecksumIEEE(b[l[i].At : l[i].At+l[i].Len]), At: l[i].At})
	}
	return slowBuild(rows, api.ID(b[len(b)-20:]))
}

// checkOf holds Of of a pack against the slow model, and Fits of what it made and of what is beside it.
func checkOf(t testing.TB, p []byte) []byte {
	t.Helper()
	want, wantErr := slowOf(p)
	was := bytes.Clone(p)
	b, err := idx.Of(p)
	if err != wantErr || !bytes.Equal(b, want) {
		t.Fatalf("Of(%x): %x, %v, not %x, %v", p, b, err, want, wantErr)
	}
	other := api.ErrForm
	if err != api.OK {
		other = err
	}
	if fits := idx.Fits(b, p); fits != err {
		t.Fatalf("Fits of Of(%x): %v, not %v", p, fits, err)
	}
	none, _ := idx.Build(nil, api.ID{})
	for _, c := range [][]byte{none, p, append(bytes.Clone(b), 0), append([]byte{255}, b...), make([]byte, api.MaxFile+1)} {
		if fits := idx.Fits(c, p); fits != other {
			t.Fatalf("Fits(%d bytes, %x): %v, not %v", len(c), p, fits, other)
		}
	}
	if !bytes.Equal(p, was) {
		t.Fatalf("%x was changed to %x", was, p)
	}
	if err == api.OK {
		checkOpen(t, b)
	}
	return b
}

// fewPack: an object of each kind, and deltas by place and by name, on whole objects, on deltas, and on what is behind.
func fewPack(t testing.TB) []byte {
	t.Helper()
	tree, err := object.EncodeTree([]object.Entry{{Mode: 0o100644, Name: "a", ID: object.ID(api.Blob, []byte("one"))}})
	if err != api.OK {
		t.Fatal(err)
	}
	commit, err := object.EncodeCommit(object.CommitData{Tree: object.ID(api.Tree, tree), Author: "A <a@x> 5 +0000", Committer: "A <a@x> 5 +0000"})
	if err != api.OK {
		t.Fatal(err)
	}
	return packed(t, ref("two", "three"), blob("one"), ofs(1, "one", "two"), entry.Entry{Kind: api.Tree, Data: tree},
		entry.Entry{Kind: api.Commit, Data: commit}, blob(""), ofs(4, "two", "four"), entry.Entry{Kind: api.Tree})
}

func TestP1702Of(t *testing.T) {
	p := fewPack(t)
	b := checkOf(t, p)
	x, err := idx.Open(b)
	if err != api.OK || x.Len() != 8 || x.Trailer() != api.ID(p[len(p)-20:]) {
		t.Fatalf("%v", err)
	}
	l, _ := pack.Read(p)
	for i, s := range []string{"three", "one", "two", "", "", "", "four"} {
		if s == "" && i != 5 {
			continue
		}
		r, is := x.Find(object.ID(api.Blob, []byte(s)))
		if !is || r.At != l[i].At || r.Crc != crc32.ChecksumIEEE(p[l[i].At:l[i].At+l[i].Len]) {
			t.Errorf("%q: %+v, %v, not %+v", s, r, is, l[i])
		}
	}
	for i, kind := range map[int]int{3: api.Tree, 4: api.Commit, 7: api.Tree} {
		if r, is := x.Find(object.ID(kind, l[i].Data)); !is || r.At != l[i].At || r.Crc != l[i].Crc {
			t.Errorf("%d: %+v, %v", i, r, is)
		}
	}
	if _, is := x.Find(object.ID(api.Commit, []byte("one"))); is {
		t.Error("what is not there is found")
	}
}

func TestP1702OfOthers(t *testing.T) {
	for _, l := range [][]entry.Entry{
		nil,
		{blob("")},
		{blob("a"), blob("b")},
		{blob("b"), blob("a")},
		{blob("a"), {Kind: api.Tree}},
		{blob("x"), ofs(1, "x", "y"), ref("y", "z"), ref("a", "b"), blob("a")},
	} {
		if b := checkOf(t, packed(t, l...)); len(b) != 1072+28*len(l) {
			t.Errorf("%+v: %d bytes", l, len(b))
		}
	}
}

// TestP1702OfCount: as many entries as may be.
func TestP1702OfCount(t *testing.T) {
	var l []entry.Entry
	for i := range api.MaxCount {
		l = append(l, blob(strconv.Itoa(i)))
	}
	if b := checkOf(t, packed(t, l...)); len(b) != 1072+28*512 {
		t.Errorf("%d bytes", len(b))
	}
}

// deep: so many deltas one on the other.
func deep(n int) []entry.Entry {
	l := []entry.Entry{blob("0")}
	for i := range n {
		l = append(l, ofs(1, strconv.Itoa(i), strconv.Itoa(i+1)))
	}
	return l
}

// TestP1702OfWrong: an error of a pack's bytes, or of its objects, is Of's and Fits', whatever the index is.
func TestP1702OfWrong(t *testing.T) {
	p := fewPack(t)
	turned := bytes.Clone(p)
	turned[20] ^= 1
	front := bytes.Clone(p)
	front[7] = 3
	count := bytes.Clone(p)
	binary.BigEndian.PutUint32(count[8:], 513)
	more := bytes.Clone(p)
	more[11]++
	less := bytes.Clone(p)
	less[11]--
	right, err := idx.Of(p)
	if err != api.OK {
		t.Fatal(err)
	}
	for _, c := range []struct {
		what string
		p    []byte
		err  api.Errno
	}{
		{"nothing", nil, api.ErrShort}, {"31 bytes", p[:31], api.ErrShort}, {"too long", make([]byte, api.MaxPack+1), api.ErrLong},
		{"the front", resealed(front), api.ErrForm}, {"the sum", turned, api.ErrSum}, {"cut", p[:len(p)-1], api.ErrSum},
		{"513 entries", resealed(count), api.ErrLong}, {"one more", resealed(more), api.ErrShort}, {"one less", resealed(less), api.ErrForm},
		{"thin", packed(t, ref("a", "b")), api.ErrNone}, {"thin, the last", packed(t, blob("x"), ref("a", "b")), api.ErrNone},
		{"deep", packed(t, deep(16)...), api.OK}, {"too deep", packed(t, deep(17)...), api.ErrLong},
		{"a delta that is none", packed(t, blob("a"), entry.Entry{Kind: entry.Ofs, Back: 1, Data: []byte{1, 1, 0}}), api.ErrForm},
		{"a delta that is cut", packed(t, blob("a"), entry.Entry{Kind: entry.Ofs, Back: 1, Data: []byte{1}}), api.ErrShort},
		{"two of one name", packed(t, blob("a"), blob("b"), blob("a")), api.ErrForm},
		{"two of one name by a delta", packed(t, blob("a"), ofs(1, "a", "b"), blob("b")), api.ErrForm},
		{"no commit", packed(t, entry.Entry{Kind: api.Commit, Data: []byte("x")}), api.ErrForm},
		{"no tree", packed(t, blob("x"), entry.Entry{Kind: api.Tree, Data: []byte("x")}), api.ErrForm},
		{"an index", right, api.ErrForm},
	} {
		b := checkOf(t, c.p)
		if _, err := idx.Of(c.p); err != c.err || (len(b) == 0) != (err != api.OK) {
			t.Errorf("%s: %v, not %v", c.what, err, c.err)
		}
		if c.err == api.OK {
			continue
		}
		for _, b := range [][]byte{nil, right, c.p} {
			if err := idx.Fits(b, c.p); err != c.err {
				t.Errorf("%s: Fits is %v, not %v", c.what, err, c.err)
			}
		}
	}
}

// TestP1702OfBits: each bit of a pack turned over, the sum made right.
func TestP1702OfBits(t *testing.T) {
	p := packed(t, blob("some bytes"), ofs(1, "some bytes", "other bytes"), ref("other bytes", "x"))
	for bit := range 8 * (len(p) - 20) {
		turned := bytes.Clone(p)
		turned[bit/8] ^= 1 << (bit % 8)
		checkOf(t, resealed(turned))
	}
}

func TestP1702OfRandom(t *testing.T) {
	random := rand.New(rand.NewSource(1703))
	for range 300 {
		texts := []string{}
		var l []entry.Entry
		for i := range random.Intn(12) {
			s := strconv.Itoa(random.Intn(30))
			switch {
			case i > 0 && random.Intn(2) == 0:
				back := 1 + random.Intn(i)
				l = append(l, ofs(back, texts[i-back], s))
			case random.Intn(4) == 0:
				l = append(l, ref(strconv.Itoa(random.Intn(30)), s))
			default:
				l = append(l, blob(s))
			}
			texts = append(texts, s)
		}
		checkOf(t, packed(t, l...))
	}
}

// TestP1702Fits: just these bytes, not those of another pack, even of the same objects, and no bit turned over, the sum right or not.
func TestP1702Fits(t *testing.T) {
	p := packed(t, blob("a"), blob("b"), blob("c"))
	b := checkOf(t, p)
	others := [][]byte{nil, {}, b[:len(b)-1], b[1:], append(bytes.Clone(b), 0), p, bytes.Repeat(b, 2)}
	for _, l := range [][]entry.Entry{
		nil, {blob("a"), blob("b")}, {blob("b"), blob("a"), blob("c")}, {blob("a"), ofs(1, "a", "b"), blob("c")}, {blob("a"), blob("b"), blob("c"), blob("d")},
	} {
		others = append(others, checkOf(t, packed(t, l...)))
	}
	if z, _, err := pack.Write([]entry.Entry{blob("a"), blob("b"), blob("c")}, 0); err == api.OK && !bytes.Equal(z, p) {
		others = append(others, checkOf(t, z))
	}
	for at := range len(b) {
		turned := bytes.Clone(b)
		turned[at] ^= 1 << (at % 8)
		others = append(others, turned)
		if at%16 == 0 {
			others = append(others, resealed(append(bytes.Clone(turned[:len(b)-20]), make([]byte, 20)...)))
		}
	}
	others = slices.DeleteFunc(others, func(c []byte) bool { return bytes.Equal(b, c) })
	for i, c := range others {
		was := bytes.Clone(c)
		if err := idx.Fits(c, p); err != api.ErrForm || !bytes.Equal(was, c) {
			t.Errorf("%d: %v", i, err)
		}
	}
	if err := idx.Fits(b, p); err != api.OK {
		t.Error(err)
	}
	if err := idx.Fits(p, b); err != api.ErrForm {
		t.Error(err)
	}
}

// TestP2Of: neither what is handed in, nor its spare room, is changed or kept.
func TestP2Of(t *testing.T) {
	p := fewPack(t)
	room := append(bytes.Clone(p), "spare"...)
	b, err := idx.Of(room[:len(p)])
	if err != api.OK || !bytes.Equal(room, append(bytes.Clone(p), "spare"...)) {
		t.Fatalf("%v, %x", err, room)
	}
	want := bytes.Clone(b)
	indexRoom := append(bytes.Clone(b), "spare"...)
	if err := idx.Fits(indexRoom[:len(b)], room[:len(p)]); err != api.OK || !bytes.Equal(indexRoom, append(bytes.Clone(b), "spare"...)) {
		t.Errorf("%v, %x", err, indexRoom)
	}
	clear(room)
	if !bytes.Equal(b, want) {
		t.Error("Of keeps what it was handed")
	}
	clear(b[:cap(b)])
	if err := idx.Fits(want, p); err != api.OK {
		t.Error("Of answers what is kept")
	}
}

// FuzzP1702Of: what stands between a pack's front and its sum is any bytes.
func FuzzP1702Of(f *testing.F) {
	p := fewPack(f)
	f.Add(uint32(8), p[12:len(p)-20])
	f.Add(uint32(0), []byte{})
	f.Fuzz(func(t *testing.T, n uint32, b []byte) {
		front := binary.BigEndian.AppendUint32([]byte("PACK\x00\x00\x00\x02"), n)
		checkOf(t, sealed(append(front, b...)))
	})
}
