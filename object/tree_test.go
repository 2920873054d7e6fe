package object_test

import (
	"math"
	"slices"
	"strconv"
	"strings"
	"testing"

	"trove/api"
	"trove/object"
)

const (
	dir    = 16384
	file   = 33188
	runs   = 33261
	link   = 40960
	module = 57344
)

var digits = map[int]string{dir: "40000", file: "100644", runs: "100755", link: "120000", module: "160000"}

// treeBytes puts entries one behind the other, whatever they are.
func treeBytes(l []object.Entry) []byte {
	var out []byte
	for _, e := range l {
		out = append(out, digits[e.Mode]+" "+e.Name+"\x00"+string(e.ID[:])...)
	}
	return out
}

// dirs: n entries in their order, the shortest there are.
func dirs(n int) []object.Entry {
	var l []object.Entry
	for k := range n {
		name := string([]byte{byte('A' + k/26), byte('a' + k%26)})
		l = append(l, object.Entry{Mode: dir, Name: name, ID: numbered(k)})
	}
	return l
}

// long: n entries of which each has m bytes, in their order.
func long(n, m int) []object.Entry {
	var l []object.Entry
	for k := range n {
		front := strconv.Itoa(1000 + k)
		name := front + strings.Repeat("x", m-len("100644 ")-len(front)-1-20)
		l = append(l, object.Entry{Mode: file, Name: name, ID: numbered(k)})
	}
	return l
}

func checkTree(t *testing.T, l []object.Entry) {
	t.Helper()
	want := treeBytes(l)
	b, err := object.EncodeTree(l)
	if err != api.OK || string(b) != string(want) {
		t.Errorf("EncodeTree(%.300q): %.100q, %v", want, b, err)
	}
	if got, err := object.DecodeTree(want); err != api.OK || !slices.Equal(got, l) {
		t.Errorf("DecodeTree(%.300q): %d entries, %v", want, len(got), err)
	}
}

func checkTreeRefused(t *testing.T, l []object.Entry, encode, decode api.Errno) {
	t.Helper()
	if b, err := object.EncodeTree(l); err != encode || len(b) != 0 {
		t.Errorf("EncodeTree(%.300q): %.100q, %v, not %v", treeBytes(l), b, err, encode)
	}
	checkTreeBytesRefused(t, string(treeBytes(l)), decode)
}

func checkTreeBytesRefused(t *testing.T, s string, want api.Errno) {
	t.Helper()
	if got, err := object.DecodeTree([]byte(s)); err != want || len(got) != 0 {
		t.Errorf("DecodeTree(%.300q): %d entries, %v, not %v", s, len(got), err, want)
	}
}

func TestP1202TreesAndBack(t *testing.T) {
	x, y := numbered(1), api.ID{0, ' ', '/', 10, 0}
	checkTree(t, nil)
	checkTree(t, []object.Entry{})
	for mode := range digits {
		for _, n := range []string{"a", "...", ".gi", ".gitx", "git", ".GIT", ".git ", ". ", " ", "\n", "a b", "\xff\xfe", "é", "-", "\\", strings.Repeat("x", api.MaxName)} {
			checkTree(t, []object.Entry{{Mode: mode, Name: n, ID: x}})
			checkTree(t, []object.Entry{{Mode: mode, Name: n, ID: y}})
			checkTree(t, []object.Entry{{Mode: mode, Name: n}})
		}
	}
	checkTree(t, []object.Entry{{file, "a", x}, {runs, "b.c", y}, {dir, "b", x}, {module, "b0", x}, {link, "c", x}})
	checkTree(t, []object.Entry{{file, "a", x}, {file, "a-", x}, {dir, "a-b", x}, {file, "a.", x}, {dir, "a0", x}, {file, "ab", x}})
}

func TestP1202TheBytes(t *testing.T) {
	id := api.ID{1, 2, 3, 19: 20}
	b, err := object.EncodeTree([]object.Entry{{Mode: 0o100644, Name: "n", ID: id}, {Mode: 0o40000, Name: "o", ID: id}})
	want := "100644 n\x00\x01\x02\x03" + strings.Repeat("\x00", 16) + "\x1440000 o\x00\x01\x02\x03" + strings.Repeat("\x00", 16) + "\x14"
	if err != api.OK || string(b) != want {
		t.Errorf("EncodeTree: %q, %v", b, err)
	}
	l, err := object.DecodeTree([]byte(want))
	if err != api.OK || !slices.Equal(l, []object.Entry{{16384 + 2*8192 + 420, "n", id}, {16384, "o", id}}) {
		t.Errorf("DecodeTree: %v, %v", l, err)
	}
}

func TestP1202Order(t *testing.T) {
	rising := []object.Entry{ // by what counts of each
		{Mode: file, Name: "A"}, {Mode: file, Name: "a"}, {Mode: file, Name: "a\x01"}, {Mode: file, Name: "a-"}, {Mode: dir, Name: "a-"}, {Mode: file, Name: "a."},
		{Mode: dir, Name: "a"}, {Mode: file, Name: "a0"}, {Mode: dir, Name: "a0"}, {Mode: file, Name: "ab"}, {Mode: file, Name: "b"}, {Mode: file, Name: "\x7f"}, {Mode: file, Name: "\x80"}, {Mode: file, Name: "é"}, {Mode: dir, Name: "\xff"},
	}
	for i, a := range rising {
		for j, b := range rising {
			want := 0
			if i < j {
				want = -1
			} else if i > j {
				want = 1
			}
			a.ID, b.ID = numbered(j), numbered(i) // which do not count
			if got := object.Order(a, b); got != want {
				t.Errorf("Order(%v, %v): %d", a, b, got)
			}
		}
	}
}

func TestP1202OrderOfModes(t *testing.T) {
	for mode := range digits {
		for other := range digits {
			a, b := object.Entry{Mode: mode, Name: "a"}, object.Entry{Mode: other, Name: "a"}
			want := 0
			if mode == dir && other != dir {
				want = 1
			} else if mode != dir && other == dir {
				want = -1
			}
			if got := object.Order(a, b); got != want {
				t.Errorf("Order(%v, %v): %d", a, b, got)
			}
		}
	}
}

func TestP1202NamesThatMayNotBe(t *testing.T) {
	for _, n := range []string{"", ".", "..", ".git", "/", "a/", "/a", "a/b", "\x00", "a\x00", "\x00a", "a\x00b", strings.Repeat("x", api.MaxName+1), strings.Repeat("x", 5000), strings.Repeat("é", 51)} {
		for mode := range digits {
			checkTreeRefused(t, []object.Entry{{Mode: mode, Name: n}}, api.ErrArg, api.ErrForm)
		}
		checkTreeRefused(t, []object.Entry{{Mode: file, Name: "!"}, {Mode: file, Name: n}, {Mode: file, Name: "~"}}, api.ErrArg, api.ErrForm)
	}
}

func TestP1202ModesThatMayNotBe(t *testing.T) {
	for _, mode := range []int{0, 1, -1, -file, 420, 40000, 100644, 100755, 120000, 160000, dir + 1, dir - 1, file + 1, 0o100664, 0o100600, 0o140000, math.MaxInt, math.MinInt, 1<<32 + dir} {
		b, err := object.EncodeTree([]object.Entry{{Mode: file, Name: "a"}, {Mode: mode, Name: "b"}})
		if err != api.ErrArg || len(b) != 0 {
			t.Errorf("EncodeTree of mode %d: %q, %v", mode, b, err)
		}
	}
	id := string(make([]byte, 20))
	for _, m := range []string{"", "0", "040000", "0100644", "00100644", "+100644", "100644\t", "-100644", "10064", "1006440", "16384", "33188", "57344", "100664", "140000", "0o40000", "1_00644", "１００６４４"} {
		checkTreeBytesRefused(t, m+" a\x00"+id, api.ErrForm)
	}
}

func TestP1202TornBytes(t *testing.T) {
	whole := string(treeBytes([]object.Entry{{file, "a", numbered(1)}, {dir, "b", numbered(2)}}))
	first := len("100644 a\x00") + 20
	for n := 1; n < len(whole); n++ {
		if n != first {
			checkTreeBytesRefused(t, whole[:n], api.ErrForm)
			checkTreeBytesRefused(t, whole[n:], api.ErrForm)
		}
	}
	for _, s := range []string{whole + "\x00", whole + "1", whole + " ", "\x00" + whole, " " + whole, whole + whole, strings.Replace(whole, " ", "\t", 1), strings.Replace(whole, " ", "", 1)} {
		checkTreeBytesRefused(t, s, api.ErrForm)
	}
}

func TestP1202OrderAndNamesTwice(t *testing.T) {
	for _, l := range [][]object.Entry{
		{{Mode: file, Name: "b"}, {Mode: file, Name: "a"}},
		{{Mode: file, Name: "a"}, {Mode: file, Name: "a"}},
		{{Mode: dir, Name: "a"}, {Mode: dir, Name: "a"}},
		{{Mode: file, Name: "a"}, {Mode: link, Name: "a"}},
		{{Mode: file, Name: "a"}, {Mode: dir, Name: "a"}},
		{{Mode: dir, Name: "a"}, {Mode: file, Name: "a"}},
		{{Mode: file, Name: "a"}, {Mode: file, Name: "a-"}, {Mode: file, Name: "a.b"}, {Mode: dir, Name: "a"}}, // each rises, but a is there twice
		{{Mode: dir, Name: "a"}, {Mode: file, Name: "a."}},
		{{Mode: file, Name: "a0"}, {Mode: dir, Name: "a"}},
		{{Mode: file, Name: "é"}, {Mode: file, Name: "z"}},
		{{Mode: file, Name: "a"}, {Mode: file, Name: "c"}, {Mode: file, Name: "b"}, {Mode: file, Name: "d"}},
	} {
		checkTreeRefused(t, l, api.ErrForm, api.ErrForm)
		bad := append(slices.Clone(l), object.Entry{Mode: file, Name: ".git"})
		checkTreeRefused(t, bad, api.ErrArg, api.ErrForm) // what may not be goes ahead of the order
	}
}

func TestP1202HowManyEntries(t *testing.T) {
	checkTree(t, dirs(api.MaxItems))
	for n := api.MaxItems + 1; n <= api.MaxObject/len("40000 Aa\x00"+string(make([]byte, 20))); n++ {
		checkTreeRefused(t, dirs(n), api.ErrArg, api.ErrLong)
	}
	l := dirs(api.MaxItems + 20)
	l[len(l)-1].Name = "!"
	checkTreeRefused(t, l, api.ErrArg, api.ErrForm) // its order goes ahead of its number
	checkTreeBytesRefused(t, string(treeBytes(dirs(api.MaxItems+20)))+"40000 x\x00", api.ErrForm)
	if _, err := object.EncodeTree(make([]object.Entry, 1<<20)); err != api.ErrArg {
		t.Errorf("EncodeTree of 2^20 entries: %v", err)
	}
}

func TestP1202HowManyBytes(t *testing.T) {
	l := long(api.MaxObject/64, 64)
	if n := len(treeBytes(l)); n != api.MaxObject {
		t.Fatalf("%d bytes", n)
	}
	checkTree(t, l)
	more := slices.Clone(l)
	more[7].Name += "x"
	checkTreeRefused(t, more, api.ErrLong, api.ErrLong)
	more[7].Name += strings.Repeat("x", api.MaxName)
	checkTreeRefused(t, more, api.ErrArg, api.ErrLong)
	more = slices.Clone(l)
	more[7].Name += "x"
	more[8], more[9] = more[9], more[8]
	checkTreeRefused(t, more, api.ErrForm, api.ErrLong)
	checkTreeBytesRefused(t, strings.Repeat("x", api.MaxObject), api.ErrForm)
	checkTreeBytesRefused(t, strings.Repeat("x", api.MaxObject+1), api.ErrLong) // its size goes ahead of its form
}

func TestP1202EncodeLeavesEntriesAsTheyAre(t *testing.T) {
	l := append(dirs(3), object.Entry{Mode: file, Name: "spare"})
	was := slices.Clone(l)
	b, _ := object.EncodeTree(l[:3])
	fill(b)
	if !slices.Equal(l, was) {
		t.Errorf("EncodeTree changed what it was handed: %v", l)
	}
}
