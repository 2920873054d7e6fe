package disk_test

import (
	"bytes"
	"math"
	"slices"
	"strconv"
	"strings"
	"testing"

	"trove/api"
	"trove/disk"
)

func made(t *testing.T, quota int) *disk.Disk {
	t.Helper()
	d, err := disk.New(quota)
	if err != api.OK {
		t.Fatalf("New(%d): %v", quota, err)
	}
	return d
}

// isOK fails unless all calls were.
func isOK(t *testing.T, errs ...api.Errno) {
	t.Helper()
	for k, err := range errs {
		if err != api.OK {
			t.Fatalf("call %d: %v", k, err)
		}
	}
}

func is(t *testing.T, what string, got, want api.Errno) {
	t.Helper()
	if got != want {
		t.Errorf("%s: %v, not %v", what, got, want)
	}
}

// told: the files of these directories with their bytes, in one text.
func told(d *disk.Disk, dirs ...string) string {
	var l []string
	for _, dir := range dirs {
		files, _ := d.List(dir)
		for _, file := range files {
			b, _ := d.Read(dir + "/" + file)
			l = append(l, dir+"/"+file+"="+string(b))
		}
	}
	return strings.Join(l, " ")
}

// lasts: what there is behind a Crash by these picks; d is not touched.
func lasts(d *disk.Disk, dirs []string, picks ...int) string {
	twin := d.Twin()
	twin.Crash(picks...)
	twin.On()
	return told(twin, dirs...)
}

func TestP1001Name(t *testing.T) {
	long := strings.Repeat("x", 100)
	for _, s := range []string{
		"a/b", "A/Z", "0/9", "_/-", ".a/..a", "a./a..", ".../....", "-/_", "objects/0123456789abcdef", "pack/pack-0.idx.tmp", "a/a",
		long + "/x", "x/" + long, long + "/" + long,
	} {
		if !disk.Name(s) {
			t.Errorf("Name(%q): false", s)
		}
	}
	for _, s := range []string{
		"", "/", "//", "a", "a/", "/a", "a//b", "a/b/", "/a/b", "a/b/c", ".", "..", "./a", "../a", "a/.", "a/..", "./.", "../..", ".a", "a.b", "a b/c", "a/b c", " a/b", "a/b ", "a/b\n", "\na/b",
		long + "x/x", "x/" + long + "x", long + long, long + "/", "/" + long, "a\\b", "a:b/c", "a/\u00e4", "\u00e4/a", "a/\xFF", "a/b\x00", "\x00/b", "a/\uFFFD", "a/\u212A", "a/" + strings.Repeat("\u00e4", 50), strings.Repeat("a/", 1000),
	} {
		if disk.Name(s) {
			t.Errorf("Name(%q): true", s)
		}
	}
}

// TestP1001NameBytes: each byte alone, in a directory's name and in a file's, first, between and last.
func TestP1001NameBytes(t *testing.T) {
	const right = "abcdefghijklmnopqrstuvwxyzABCDEFGHIJKLMNOPQRSTUVWXYZ0123456789._-"
	for v := range 256 {
		c := string([]byte{byte(v)})
		want := strings.Contains(right, c)
		for _, s := range []string{c + "x/y", "x" + c + "/y", "x" + c + "x/y", "x/" + c + "y", "x/y" + c, "x/y" + c + "y"} {
			if disk.Name(s) != want {
				t.Errorf("Name(%q): %v", s, !want)
			}
		}
		if alone := want && c != "."; disk.Name(c+"/x") != alone || disk.Name("x/"+c) != alone {
			t.Errorf("Name of %q alone: not %v", c, alone)
		}
	}
}

func TestP1001New(t *testing.T) {
	for _, quota := range []int{0, 1, 2, 262144, 1<<30 - 1, 1 << 30} {
		d := made(t, quota)
		if d.Quota() != quota || d.Used() != 0 || d.Calls() != 0 || d.Off() || told(d, "a", "b") != "" {
			t.Errorf("New(%d): %d, %d, %d, %v, %s", quota, d.Quota(), d.Used(), d.Calls(), d.Off(), told(d, "a", "b"))
		}
	}
	for _, quota := range []int{-1, -2, math.MinInt, 1<<30 + 1, 1 << 31, 1 << 32, math.MaxInt} {
		if d, err := disk.New(quota); err != api.ErrArg || d != nil {
			t.Errorf("New(%d): %v, %v", quota, d, err)
		}
	}
}

func TestP1001Append(t *testing.T) {
	d := made(t, 100)
	isOK(t, d.Append("a/x", []byte("one")), d.Append("a/x", nil), d.Append("a/x", []byte{}), d.Append("b/x", []byte("two")), d.Append("a/x", []byte("\x00\xFF")), d.Append("a/y", nil))
	if got := told(d, "a", "b"); got != "a/x=one\x00\xFF a/y= b/x=two" {
		t.Errorf("%q", got)
	}
	if d.Used() != 8 || d.Calls() != 6 {
		t.Errorf("%d bytes, %d calls", d.Used(), d.Calls())
	}
	if n, err := d.Size("a/x"); n != 5 || err != api.OK {
		t.Errorf("%d, %v", n, err)
	}
	if n, err := d.Size("a/y"); n != 0 || err != api.OK {
		t.Errorf("%d, %v", n, err)
	}
}

// TestP1001AppendLong: a file of MaxFile bytes, made at once or in pieces, and one more.
func TestP1001AppendLong(t *testing.T) {
	whole := make([]byte, api.MaxFile)
	d := made(t, 1<<30)
	isOK(t, d.Append("a/x", whole), d.Append("a/x", nil), d.Append("a/y", whole[1:]), d.Append("a/y", whole[:1]))
	is(t, "one more", d.Append("a/x", whole[:1]), api.ErrLong)
	is(t, "one more", d.Append("a/y", whole[:1]), api.ErrLong)
	is(t, "at once", d.Append("a/z", make([]byte, api.MaxFile+1)), api.ErrLong)
	isOK(t, d.Append("a/w", whole[:9]))
	is(t, "in pieces", d.Append("a/w", whole[:api.MaxFile-8]), api.ErrLong)
	isOK(t, d.Append("a/w", whole[:api.MaxFile-9]))
	if d.Used() != 3*api.MaxFile || d.Calls() != 6 {
		t.Errorf("%d bytes, %d calls", d.Used(), d.Calls())
	}
	if _, err := d.Size("a/z"); err != api.ErrNone {
		t.Errorf("a file was made: %v", err)
	}
	if l, err := d.List("a"); !slices.Equal(l, []string{"w", "x", "y"}) || err != api.OK {
		t.Errorf("%v, %v", l, err)
	}
}

func TestP1001AppendFull(t *testing.T) {
	d := made(t, 10)
	isOK(t, d.Append("a/x", []byte("1234")))
	is(t, "eleven", d.Append("a/y", []byte("1234567")), api.ErrFull)
	is(t, "eleven", d.Append("a/x", []byte("1234567")), api.ErrFull)
	is(t, "none of it", d.Sync("a/y"), api.ErrNone)
	isOK(t, d.Append("b/y", []byte("123456")), d.Append("b/y", nil), d.Append("b/z", nil))
	is(t, "one more", d.Append("b/y", []byte("1")), api.ErrFull)
	isOK(t, d.Rename("b/z", "b/y"), d.Append("c/z", []byte("123456")))
	is(t, "one more", d.Append("c/z", []byte("1")), api.ErrFull)
	isOK(t, d.Remove("a/x"), d.Append("c/z", []byte("1234")))
	is(t, "one more", d.Append("a/x", []byte("1")), api.ErrFull)
	if got := told(d, "a", "b", "c"); got != "b/y= c/z=1234561234" || d.Used() != 10 {
		t.Errorf("%s, %d", got, d.Used())
	}
	d = made(t, 0)
	isOK(t, d.Append("a/x", nil))
	is(t, "a byte", d.Append("a/x", []byte("1")), api.ErrFull)
}

// TestP1001AppendErrors: no power ahead of a name that may not be, that ahead of a file that is too long, that ahead of no room.
func TestP1001AppendErrors(t *testing.T) {
	d := made(t, 10)
	long := make([]byte, api.MaxFile+1)
	isOK(t, d.Append("a/x", []byte("1")))
	for _, name := range wrongNames() {
		is(t, name, d.Append(name, nil), api.ErrArg)
		is(t, name, d.Append(name, long[:20]), api.ErrArg)
		is(t, name, d.Append(name, long), api.ErrArg)
	}
	is(t, "long", d.Append("a/y", long), api.ErrLong)
	is(t, "long", d.Append("a/x", long[:api.MaxFile]), api.ErrLong)
	is(t, "full", d.Append("a/x", long[:api.MaxFile-1]), api.ErrFull)
	is(t, "full", d.Append("a/y", long[:api.MaxFile]), api.ErrFull)
	if got := told(d, "a"); got != "a/x=1" || d.Calls() != 1 {
		t.Errorf("%s, %d calls", got, d.Calls())
	}
}

// TestP1001MaxFiles: as many files as may be, empty ones too, and one more, in whatever directory.
func TestP1001MaxFiles(t *testing.T) {
	d := made(t, 1<<20)
	for k := range api.MaxFiles {
		isOK(t, d.Append([]string{"a/", "b/", "c/"}[k%3]+strconv.Itoa(k), nil))
	}
	for _, name := range []string{"a/x", "b/x", "d/x"} {
		is(t, name, d.Append(name, nil), api.ErrFull)
	}
	isOK(t, d.Append("a/0", []byte("1")), d.Append("b/1", nil), d.Rename("a/0", "a/00"))
	is(t, "the elder name", d.Append("a/0", nil), api.ErrFull)
	isOK(t, d.Rename("a/00", "a/3"), d.Append("d/x", nil))
	is(t, "one more", d.Append("d/y", nil), api.ErrFull)
	isOK(t, d.Remove("c/2"), d.Append("d/y", nil))
	is(t, "one more", d.Append("d/z", nil), api.ErrFull)
	is(t, "too long", d.Append("d/z", make([]byte, api.MaxFile+1)), api.ErrLong)
}

// TestP1001MoreFilesThanMayBe: removed ones come back with a Crash, new ones last.
func TestP1001MoreFilesThanMayBe(t *testing.T) {
	d := made(t, 10)
	for k := range api.MaxFiles {
		isOK(t, d.Append("a/"+strconv.Itoa(k), nil))
	}
	isOK(t, d.SyncDir("a"), d.Remove("a/0"), d.Remove("a/1"), d.Append("b/0", nil), d.Append("b/1", nil), d.SyncDir("b"))
	d.Crash()
	d.On()
	if l, _ := d.List("a"); len(l) != api.MaxFiles {
		t.Fatalf("%d files", len(l))
	}
	is(t, "a new one", d.Append("b/2", nil), api.ErrFull)
	isOK(t, d.Append("b/0", []byte("1")), d.Remove("a/0"), d.Remove("a/1"))
	is(t, "a new one", d.Append("b/2", nil), api.ErrFull)
	isOK(t, d.Remove("a/2"), d.Append("b/2", nil))
}

// TestP1001AboveTheQuota: with a Crash it may be, and then there is room for nothing, not even for no bytes.
func TestP1001AboveTheQuota(t *testing.T) {
	d := made(t, 10)
	isOK(t, d.Append("a/x", []byte("12345678")), d.Sync("a/x"), d.SyncDir("a"), d.Remove("a/x"), d.Append("b/y", []byte("123456")), d.Sync("b/y"), d.SyncDir("b"))
	if d.Used() != 6 {
		t.Errorf("%d bytes", d.Used())
	}
	d.Crash()
	d.On()
	if d.Used() != 14 || told(d, "a", "b") != "a/x=12345678 b/y=123456" {
		t.Errorf("%d bytes: %s", d.Used(), told(d, "a", "b"))
	}
	for _, name := range []string{"a/x", "b/y", "a/new"} {
		is(t, name, d.Append(name, nil), api.ErrFull)
		is(t, name, d.Append(name, []byte("1")), api.ErrFull)
	}
	isOK(t, d.Sync("a/x"), d.Rename("b/y", "b/z"), d.Remove("b/z"), d.Append("a/new", []byte("12")))
	is(t, "one more", d.Append("a/x", []byte("1")), api.ErrFull)
}

func TestP1001Rename(t *testing.T) {
	d := made(t, 100)
	isOK(t, d.Append("a/x", []byte("one")), d.Append("a/y", []byte("three")), d.Append("b/x", []byte("two")), d.Rename("a/x", "a/z"))
	if got := told(d, "a", "b"); got != "a/y=three a/z=one b/x=two" || d.Used() != 11 {
		t.Errorf("%s, %d", got, d.Used())
	}
	isOK(t, d.Rename("a/z", "a/y"))
	if got := told(d, "a", "b"); got != "a/y=one b/x=two" || d.Used() != 6 || d.Calls() != 5 {
		t.Errorf("a to that was there: %s, %d, %d", got, d.Used(), d.Calls())
	}
	isOK(t, d.Append("a/y", []byte("!")), d.Append("a/z", []byte("new")), d.Rename("a/y", "a/y"))
	if got := told(d, "a", "b"); got != "a/y=one! a/z=new b/x=two" || d.Calls() != 8 {
		t.Errorf("to itself: %s, %d", got, d.Calls())
	}
}

func TestP1001RenameErrors(t *testing.T) {
	d := made(t, 100)
	isOK(t, d.Append("a/x", []byte("1")), d.Append("b/y", []byte("2")))
	for _, name := range wrongNames() {
		is(t, name, d.Rename(name, "a/x"), api.ErrArg)
		is(t, name, d.Rename("a/x", name), api.ErrArg)
		is(t, name, d.Rename("a/none", name), api.ErrArg)
		is(t, name, d.Rename(name, name), api.ErrArg)
	}
	for _, x := range [][2]string{{"a/x", "b/x"}, {"a/x", "b/y"}, {"a/none", "b/none"}, {"b/y", "a/y"}, {"a/x", "aa/x"}, {"a/x", "A/x"}} {
		is(t, x[0]+" "+x[1], d.Rename(x[0], x[1]), api.ErrArg)
	}
	for _, x := range [][2]string{{"a/y", "a/x"}, {"a/y", "a/z"}, {"a/y", "a/y"}, {"c/x", "c/y"}, {"a/X", "a/x"}} {
		is(t, x[0]+" "+x[1], d.Rename(x[0], x[1]), api.ErrNone)
	}
	if got := told(d, "a", "b"); got != "a/x=1 b/y=2" || d.Calls() != 2 {
		t.Errorf("%s, %d", got, d.Calls())
	}
}

func TestP1001Remove(t *testing.T) {
	d := made(t, 100)
	isOK(t, d.Append("a/x", []byte("one")), d.Append("a/y", []byte("two")), d.Remove("a/x"))
	if got := told(d, "a"); got != "a/y=two" || d.Used() != 3 || d.Calls() != 3 {
		t.Errorf("%s, %d, %d", got, d.Used(), d.Calls())
	}
	is(t, "again", d.Remove("a/x"), api.ErrNone)
	isOK(t, d.Append("a/x", []byte("new")))
	if got := told(d, "a"); got != "a/x=new a/y=two" {
		t.Errorf("made anew: %s", got)
	}
	for _, name := range slices.Concat(wrongNames(), []string{"a/z", "b/x", "A/x"}) {
		is(t, name, d.Remove(name), api.ErrNone)
	}
	if d.Calls() != 4 {
		t.Errorf("%d calls", d.Calls())
	}
}

// TestP1001Telling: Read, Size and List change nothing, and their answers are nobody else's.
func TestP1001Telling(t *testing.T) {
	d := made(t, 100)
	b := append(make([]byte, 0, 20), "one"...)
	isOK(t, d.Append("a/x", b), d.Append("a/y", []byte("two")))
	copy(b[:20], bytes.Repeat([]byte("?"), 20))
	got, err := d.Read("a/x")
	if string(got) != "one" || err != api.OK {
		t.Fatalf("%q, %v", got, err)
	}
	copy(got[:cap(got)], bytes.Repeat([]byte("!"), cap(got)))
	l, err := d.List("a")
	if !slices.Equal(l, []string{"x", "y"}) || err != api.OK {
		t.Fatalf("%v, %v", l, err)
	}
	l[0] = "?"
	isOK(t, d.Append("a/x", []byte("more")))
	if got := told(d, "a"); got != "a/x=onemore a/y=two" || d.Calls() != 3 {
		t.Errorf("%s, %d calls", got, d.Calls())
	}
	for _, name := range slices.Concat(wrongNames(), []string{"a/z", "b/x"}) {
		if b, err := d.Read(name); err != api.ErrNone || len(b) != 0 {
			t.Errorf("Read(%q): %q, %v", name, b, err)
		}
		if n, err := d.Size(name); err != api.ErrNone || n != 0 {
			t.Errorf("Size(%q): %d, %v", name, n, err)
		}
		is(t, name, d.Sync(name), api.ErrNone)
	}
}

func TestP1001List(t *testing.T) {
	d := made(t, 100)
	files := []string{"z", "a", "-", "_", "0", "B", "a.b", "a-b", "aa", "...", "10", "9", strings.Repeat("y", 100)}
	for _, file := range files {
		isOK(t, d.Append("a/"+file, nil))
	}
	isOK(t, d.Append("aa/x", nil), d.Append("A/x", nil), d.Append("a-/x", nil), d.Append("a.b/x", nil))
	slices.Sort(files)
	if l, err := d.List("a"); !slices.Equal(l, files) || err != api.OK {
		t.Errorf("%v, %v", l, err)
	}
	for _, dir := range []string{"c", "a.", "b", "x", "...", strings.Repeat("d", 100)} {
		if l, err := d.List(dir); len(l) != 0 || err != api.OK {
			t.Errorf("List(%q): %v, %v", dir, l, err)
		}
		is(t, dir, d.SyncDir(dir), api.OK)
	}
	calls := d.Calls()
	for _, dir := range slices.Concat(wrongDirs(), []string{strings.Repeat("d", 101), "a\x00", "\xFF"}) {
		if l, err := d.List(dir); len(l) != 0 || err != api.ErrArg {
			t.Errorf("List(%q): %v, %v", dir, l, err)
		}
		is(t, dir, d.SyncDir(dir), api.ErrArg)
	}
	if d.Calls() != calls {
		t.Errorf("%d calls, not %d", d.Calls(), calls)
	}
}
