package object_test

import (
	"bytes"
	"crypto/sha1"
	"math"
	"slices"
	"strconv"
	"strings"
	"testing"

	"trove/api"
	"trove/object"
	"trove/oid"
	"trove/sha"
)

var kinds = map[int]string{1: "commit", 2: "tree", 3: "blob", 4: "tag"}

// noKinds: numbers that are no kinds, those of a pack's deltas among them.
var noKinds = []int{0, -1, 5, 6, 7, 8, 100, 1 << 32, 1<<32 + 3, math.MaxInt, math.MinInt}

func name(t testing.TB, hex string) api.ID {
	t.Helper()
	id, err := oid.Parse(hex)
	if err != api.OK {
		t.Fatalf("%q: %v", hex, err)
	}
	return id
}

// numbered: a name for each number.
func numbered(n int) api.ID {
	return api.ID(sha1.Sum([]byte(strconv.Itoa(n))))
}

const (
	helloHex = "ce013625030ba8dba906f756967f9e9ca394464a"
	emptyHex = "4b825dc642cb6eb9a060e54bf8d69288fbee4904"
	otherHex = "0123456789abcdef0123456789abcdef01234567"
	treeHex  = "e5953e5387a5bac3232914707bf1ee114a22ae7d"
	oneHex   = "bdbeb1e53ce1ea6a85bf7274d60efb54963e78e8"
	twoHex   = "729f1e0829a39b1a072d4cabd834b1dc3727279f"
	joinHex  = "aa6b053391b3ee59359aa0f574bac5a9abed11cb"
	tagHex   = "c135d8bd7b603c366c304dd95093b06ca3d8ef1b"
	againHex = "30bc52da61a3c8f592d238de6e3dfb1a2b0a9f86"
)

const who = "author A U Thor <a@x> 1112911993 -0700\ncommitter C O Mitter <c@x> 1112912053 +0200\n\n"

// knownObject: an object that git made, and the name it gave it.
type knownObject struct {
	kind  int
	data  string
	name  string
	edges []string // rising
}

func raw(t testing.TB, hex string) string {
	id := name(t, hex)
	return string(id[:])
}

func known(t testing.TB) []knownObject {
	hello, empty, other := raw(t, helloHex), raw(t, emptyHex), raw(t, otherHex)
	tree := "100644 a.txt\x00" + hello + "40000 a\x00" + empty + "120000 link\x00" + hello + "100755 run\x00" + hello + "160000 sub\x00" + other
	return []knownObject{
		{api.Blob, "", "e69de29bb2d1d6434b8b29ae775ad8c2e48c5391", nil},
		{api.Blob, "hello\n", helloHex, nil},
		{api.Tree, "", emptyHex, nil},
		{api.Tree, tree, treeHex, []string{emptyHex, helloHex}},
		{api.Commit, "tree " + treeHex + "\n" + who + "one\n", oneHex, []string{treeHex}},
		{api.Commit, "tree " + emptyHex + "\nparent " + oneHex + "\n" + who + "two\n\nmore\n", twoHex, []string{emptyHex, oneHex}},
		{api.Commit, "tree " + treeHex + "\nparent " + twoHex + "\nparent " + oneHex + "\n" + who + "join", joinHex, []string{twoHex, oneHex, treeHex}},
		{api.Tag, "object " + joinHex + "\ntype commit\ntag v1.0\ntagger T <t@x> 1112912100 +0000\n\nthe first\n", tagHex, []string{joinHex}},
		{api.Tag, "object " + tagHex + "\ntype tag\ntag again\ntagger T <t@x> 1112912101 +0000\n\n", againHex, []string{tagHex}},
	}
}

func TestP1201WordsOfKinds(t *testing.T) {
	for kind, word := range kinds {
		if got := object.Word(kind); got != word {
			t.Errorf("Word(%d): %q", kind, got)
		}
		if got, ok := object.KindOf(word); got != kind || !ok {
			t.Errorf("KindOf(%q): %d, %v", word, got, ok)
		}
	}
	for _, kind := range noKinds {
		if got := object.Word(kind); got != "" {
			t.Errorf("Word(%d): %q", kind, got)
		}
	}
	for _, word := range []string{"", " ", "Commit", "TREE", "blob ", " blob", "tags", "ta", "commit\x00", "tréé", "ofs-delta", "3", "treeblob"} {
		if got, ok := object.KindOf(word); got != 0 || ok {
			t.Errorf("KindOf(%q): %d, %v", word, got, ok)
		}
	}
}

func TestP1201KnownObjects(t *testing.T) {
	for _, k := range known(t) {
		b := []byte(k.data)
		if got := oid.Hex(object.ID(k.kind, b)); got != k.name {
			t.Errorf("ID(%d, %q): %s, not %s", k.kind, k.data, got, k.name)
		}
		if err := object.Check(k.kind, b); err != api.OK {
			t.Errorf("Check(%d, %q): %v", k.kind, k.data, err)
		}
	}
}

func TestP1201CanonAndBack(t *testing.T) {
	for kind, word := range kinds {
		for _, n := range []int{0, 1, 9, 10, 11, 99, 100, 999, 1000, 9999, 10000, api.MaxObject - 1, api.MaxObject} {
			b := bytes.Repeat([]byte("\x00 7\n"), n/4+1)[:n]
			c := object.Canon(kind, b)
			if string(c) != word+" "+strconv.Itoa(n)+"\x00"+string(b) {
				t.Fatalf("Canon(%d, %d bytes): %.20q", kind, n, c)
			}
			if got := object.ID(kind, b); got != sha.Sum(c) || got != api.ID(sha1.Sum(c)) {
				t.Errorf("ID(%d, %d bytes): %x", kind, n, got)
			}
			if k, d, err := object.Open(c); k != kind || !bytes.Equal(d, b) || err != api.OK {
				t.Errorf("Open(%.20q): %d, %d bytes, %v", c, k, len(d), err)
			}
		}
	}
	for _, kind := range noKinds {
		if c := object.Canon(kind, []byte("abc")); c != nil {
			t.Errorf("Canon(%d): %q", kind, c)
		}
		if id := object.ID(kind, []byte("abc")); id != sha.Sum(nil) {
			t.Errorf("ID(%d): %x", kind, id)
		}
	}
}

func checkOpenRefuses(t *testing.T, c string, want api.Errno) {
	t.Helper()
	if kind, b, err := object.Open([]byte(c)); kind != 0 || len(b) != 0 || err != want {
		t.Errorf("Open(%.40q): %d, %.20q, %v, not %v", c, kind, b, err, want)
	}
}

func TestP1201OpenWrongForms(t *testing.T) {
	for _, c := range []string{
		"", "\x00", "blob", "blob ", "blob 0", "blob\x00", "blob \x00", "blob\x000", " 0\x00", "0\x00", "blob2\x00ab",
		"blob 2\x00a", "blob 2\x00abc", "blob 0\x00a", "blob 1\x00", "blob 2 \x00ab", "blob  2\x00ab", " blob 2\x00ab", "blob\t2\x00ab", "blob 2\nab",
		"blob 02\x00ab", "blob 00\x00", "blob +2\x00ab", "blob -0\x00", "blob 2.0\x00ab", "blob 0x2\x00ab", "blob 1_0\x000123456789", "blob ２\x00ab", "blob 2e0\x00ab",
		"blub 2\x00ab", "Blob 2\x00ab", "ofs 2\x00ab", "3 2\x00ab", "blob tree 2\x00ab", "blob 2 2\x00ab",
		"blob 18446744073709551618\x00ab", "blob 4294967298\x00ab", "blob " + strings.Repeat("9", 1000) + "\x00ab",
		"blob " + strings.Repeat("0", 20000) + "2\x00ab", strings.Repeat("blob ", 20000),
	} {
		checkOpenRefuses(t, c, api.ErrForm)
	}
}

func TestP1201OpenLong(t *testing.T) {
	for kind := range kinds {
		for _, n := range []int{api.MaxObject + 1, api.MaxObject + 2, 100000} {
			c := string(object.Canon(kind, make([]byte, n)))
			checkOpenRefuses(t, c, api.ErrLong)
			checkOpenRefuses(t, c+"\x00", api.ErrForm) // its form goes ahead
			checkOpenRefuses(t, "x"+c, api.ErrForm)
		}
	}
}

func TestP1201Check(t *testing.T) {
	long, most := make([]byte, api.MaxObject+1), make([]byte, api.MaxObject)
	for _, kind := range noKinds {
		for _, b := range [][]byte{nil, most, long} { // its kind goes ahead
			if err := object.Check(kind, b); err != api.ErrArg {
				t.Errorf("Check(%d, %d bytes): %v", kind, len(b), err)
			}
		}
	}
	for kind := range kinds {
		if err := object.Check(kind, long); err != api.ErrLong {
			t.Errorf("Check(%d, too long): %v", kind, err)
		}
		want := api.ErrForm
		if kind == api.Blob {
			want = api.OK
		}
		for _, b := range [][]byte{most, []byte("\x00"), []byte("tree"), {255, 254, 10}} {
			if err := object.Check(kind, b); err != want {
				t.Errorf("Check(%d, %.20q): %v", kind, b, err)
			}
		}
	}
	for kind, want := range map[int]api.Errno{api.Blob: api.OK, api.Tree: api.OK, api.Commit: api.ErrForm, api.Tag: api.ErrForm} {
		if err := object.Check(kind, nil); err != want {
			t.Errorf("Check(%d, nothing): %v", kind, err)
		}
	}
}

func TestP1201CheckIsTheDecodesError(t *testing.T) {
	for _, k := range known(t) {
		for kind := range kinds { // an object of one kind is none of another one
			want := api.ErrForm
			if kind == k.kind || kind == api.Blob || kind == api.Tree && k.data == "" {
				want = api.OK
			}
			if err := object.Check(kind, []byte(k.data)); err != want {
				t.Errorf("Check(%d, %q): %v", kind, k.data, err)
			}
		}
	}
	many := treeBytes(dirs(api.MaxItems + 1))
	if err := object.Check(api.Tree, many); err != api.ErrLong || len(many) > api.MaxObject {
		t.Errorf("Check of a tree of too many entries in %d bytes: %v", len(many), err)
	}
}

// spared hands b on in the midst of other bytes, and tells of any change there.
func spared(t *testing.T, b []byte, call func(b []byte)) {
	t.Helper()
	room := slices.Concat([]byte("ahead"), b, []byte("the spare room behind it"))
	was := bytes.Clone(room)
	call(room[5 : 5+len(b)])
	if !bytes.Equal(room, was) {
		t.Fatalf("what was handed in was changed: %q, not %q", room, was)
	}
}

func fill(b []byte) {
	for k := range b[:cap(b)] {
		b[:cap(b)][k] ^= 255
	}
}

func fillIDs(l []api.ID) {
	for k := range l[:cap(l)] {
		l[:cap(l)][k] = api.ID{1, 2, 3}
	}
}

func TestP2NothingIsChangedOrShared(t *testing.T) {
	for _, k := range known(t) {
		b := []byte(k.data)
		spared(t, b, func(b []byte) { fill(object.Canon(k.kind, b)) })
		spared(t, object.Canon(k.kind, b), func(c []byte) {
			_, d, _ := object.Open(c)
			fill(d)
		})
		spared(t, b, func(b []byte) {
			object.ID(k.kind, b)
			object.Check(k.kind, b)
			l, _ := object.DecodeTree(b)
			clear(l[:cap(l)])
			c, _ := object.DecodeCommit(b)
			fillIDs(c.Parents)
			object.DecodeTag(b)
			fillIDs(object.Parents(k.kind, b))
			ids, _ := object.Edges(k.kind, b)
			fillIDs(ids)
		})
	}
}

func TestP2NothingIsKept(t *testing.T) {
	for _, k := range known(t) {
		b := []byte(k.data)
		c := object.Canon(k.kind, b)
		open := slices.Clone(c)
		_, data, _ := object.Open(open)
		l, _ := object.DecodeTree(b)
		commit, _ := object.DecodeCommit(b)
		tag, _ := object.DecodeTag(b)
		fill(b)
		fill(open)
		if string(c[len(c)-len(b):]) != k.data || string(data) != k.data {
			t.Errorf("%q: Canon or Open answers what was handed in", k.data)
		}
		var again []byte
		switch k.kind {
		case api.Tree:
			again, _ = object.EncodeTree(l)
		case api.Commit:
			again, _ = object.EncodeCommit(commit)
		case api.Tag:
			again, _ = object.EncodeTag(tag)
		default:
			continue
		}
		if string(again) != k.data {
			t.Errorf("%q: what was decoded turned with what was handed in: %q", k.data, again)
		}
	}
}
