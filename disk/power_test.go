package disk_test

import (
	"math"
	"slices"
	"testing"

	"trove/api"
	"trove/disk"
)

func TestP1002WithoutPower(t *testing.T) {
	d := made(t, 100)
	isOK(t, d.Append("a/x", []byte("one")), d.Sync("a/x"), d.SyncDir("a"))
	d.Crash()
	for _, name := range slices.Concat(wrongNames(), []string{"a/x", "a/none"}) {
		is(t, "Append", d.Append(name, nil), api.ErrDown)
		is(t, "Append", d.Append(name, make([]byte, api.MaxFile+1)), api.ErrDown)
		is(t, "Sync", d.Sync(name), api.ErrDown)
		is(t, "Rename", d.Rename(name, name), api.ErrDown)
		is(t, "Rename", d.Rename(name, "b/x"), api.ErrDown)
		is(t, "Remove", d.Remove(name), api.ErrDown)
		if b, err := d.Read(name); len(b) != 0 || err != api.ErrDown {
			t.Errorf("Read(%q): %q, %v", name, b, err)
		}
		if n, err := d.Size(name); n != 0 || err != api.ErrDown {
			t.Errorf("Size(%q): %d, %v", name, n, err)
		}
	}
	for _, dir := range slices.Concat(wrongDirs(), []string{"a", "b"}) {
		is(t, "SyncDir", d.SyncDir(dir), api.ErrDown)
		if l, err := d.List(dir); len(l) != 0 || err != api.ErrDown {
			t.Errorf("List(%q): %v, %v", dir, l, err)
		}
	}
	if d.Used() != 0 || d.Quota() != 100 || d.Calls() != 3 || !d.Off() {
		t.Errorf("%d, %d, %d, %v", d.Used(), d.Quota(), d.Calls(), d.Off())
	}
	d.On()
	if d.Used() != 3 || told(d, "a", "b") != "a/x=one" || d.Calls() != 3 || d.Off() {
		t.Errorf("%d, %s, %d, %v", d.Used(), told(d, "a", "b"), d.Calls(), d.Off())
	}
}

// TestP1002Changes: of a directory's changes the first ones last: each of the three kinds, and a name that was there.
func TestP1002Changes(t *testing.T) {
	d := made(t, 100)
	isOK(t, d.Append("a/x", []byte("1")), d.Sync("a/x"), d.SyncDir("a"))
	want := []string{"a/x=1"}
	for _, x := range []struct {
		work func() api.Errno
		then string
	}{
		{func() api.Errno { return d.Append("a/y", nil) }, "a/x=1 a/y="},
		{func() api.Errno { return d.Rename("a/x", "a/z") }, "a/y= a/z=1"},
		{func() api.Errno { return d.Rename("a/z", "a/y") }, "a/y=1"},
		{func() api.Errno { return d.Remove("a/y") }, ""},
		{func() api.Errno { return d.Append("a/y", nil) }, "a/y="},
		{func() api.Errno { return d.Remove("a/y") }, ""},
		{func() api.Errno { return d.Append("a/x", nil) }, "a/x="},
	} {
		isOK(t, x.work())
		want = append(want, x.then)
		n := len(want)
		for k, text := range want {
			for _, pick := range []int{k, k + n, k - n, k + 10*n, k - 10*n} {
				if got := lasts(d, []string{"a"}, pick); got != text {
					t.Errorf("%d of %d changes, by %d: %q, not %q", k, n-1, pick, got, text)
				}
			}
		}
		if got := lasts(d, []string{"a"}); got != want[0] {
			t.Errorf("without a pick: %q", got)
		}
	}
}

// TestP1002NoChanges: what changes no directory: more bytes, a Rename to itself, what is refused.
func TestP1002NoChanges(t *testing.T) {
	d := made(t, 100)
	isOK(t, d.Append("a/x", []byte("1")), d.SyncDir("a"), d.Append("a/x", []byte("2")), d.Rename("a/x", "a/x"), d.Append("a/x", nil), d.Sync("a/x"))
	d.Append("a/y", make([]byte, 200))
	d.Append("a/y", make([]byte, api.MaxFile+1))
	d.Rename("a/y", "a/x")
	d.Rename("a/x", "b/x")
	d.Remove("a/y")
	isOK(t, d.Append("b/z", []byte("12")))
	for k, want := range []string{"a/x=12", "a/x=12 b/z=", "a/x=12", "a/x=12 b/z="} {
		if got := lasts(d, []string{"a", "b"}, k, 0); got != want {
			t.Errorf("%d: %s, not %s", k, got, want)
		}
	}
	if got := lasts(d, []string{"a", "b"}, 1, 2); got != "a/x=12 b/z=12" {
		t.Errorf("%s", got)
	}
}

// TestP1002SyncDir: which files there are lasts, not their bytes, and of no other directory.
func TestP1002SyncDir(t *testing.T) {
	d := made(t, 100)
	isOK(t, d.Append("a/x", []byte("1")), d.Append("b/x", []byte("2")), d.SyncDir("a"), d.SyncDir("c"))
	for _, x := range []struct {
		picks []int
		want  string
	}{{nil, "a/x="}, {[]int{0, 1}, "a/x=1"}, {[]int{1}, "a/x= b/x="}, {[]int{1, 0, 1}, "a/x= b/x=2"}, {[]int{1, 1, 1}, "a/x=1 b/x=2"}} {
		if got := lasts(d, []string{"a", "b"}, x.picks...); got != x.want {
			t.Errorf("%v: %s, not %s", x.picks, got, x.want)
		}
	}
	isOK(t, d.Remove("a/x"), d.Append("a/y", nil), d.SyncDir("a"), d.Remove("a/y"), d.SyncDir("b"))
	if got := lasts(d, []string{"a", "b"}, 0, 1); got != "a/y= b/x=2" {
		t.Errorf("what lasted is removed: %s", got)
	}
	isOK(t, d.SyncDir("a"))
	if got := lasts(d, []string{"a", "b"}, 0); got != "b/x=" {
		t.Errorf("what was removed lasts: %s", got)
	}
}

// TestP1002Sync: bytes up to the last Sync last, of those behind it the first ones, all of them at the most.
func TestP1002Sync(t *testing.T) {
	d := made(t, 100)
	isOK(t, d.Append("a/x", []byte("abc")), d.SyncDir("a"))
	for k, want := range []string{"a/x=", "a/x=a", "a/x=ab", "a/x=abc", "a/x=", "a/x=a"} {
		if got := lasts(d, []string{"a"}, k); got != want {
			t.Errorf("never synced, %d: %s", k, got)
		}
	}
	isOK(t, d.Sync("a/x"))
	for k := range 4 {
		if got := lasts(d, []string{"a"}, k); got != "a/x=abc" {
			t.Errorf("synced, %d: %s", k, got)
		}
	}
	isOK(t, d.Append("a/x", []byte("d")), d.Append("a/x", []byte("e")))
	for k, want := range []string{"a/x=abc", "a/x=abcd", "a/x=abcde", "a/x=abc"} {
		if got := lasts(d, []string{"a"}, k); got != want {
			t.Errorf("more bytes, %d: %s", k, got)
		}
	}
	for _, k := range []int{-1, -4, 2 - 3<<40, 2 + 3<<40} {
		if got := lasts(d, []string{"a"}, k); got != "a/x=abcde" {
			t.Errorf("more bytes, %d: %s", k, got)
		}
	}
	isOK(t, d.Sync("a/x"), d.Sync("a/x"))
	if got := lasts(d, []string{"a"}); got != "a/x=abcde" {
		t.Errorf("synced again: %s", got)
	}
}

// TestP1002SyncIsNoSyncDir: synced bytes of a file whose name does not last are gone; where it does, they are there.
func TestP1002SyncIsNoSyncDir(t *testing.T) {
	d := made(t, 100)
	isOK(t, d.Append("a/x", []byte("abc")), d.Sync("a/x"))
	if got := lasts(d, []string{"a"}); got != "" {
		t.Errorf("%s", got)
	}
	if got := lasts(d, []string{"a"}, 1); got != "a/x=abc" {
		t.Errorf("%s", got)
	}
}

// TestP1002WhatFilesAre: a file keeps its bytes, and how many of them were synced, whatever its name is.
func TestP1002WhatFilesAre(t *testing.T) {
	d := made(t, 100)
	isOK(t,
		d.Append("a/x", []byte("old")), d.Sync("a/x"), d.SyncDir("a"),
		d.Append("a/t", []byte("new")), d.Sync("a/t"), d.Rename("a/t", "a/x"), d.Append("a/x", []byte("er")),
		d.Append("a/t", []byte("third")), d.Rename("a/x", "a/y"), d.Remove("a/t"))
	for k, want := range []string{"a/x=old", "a/t=new a/x=old", "a/x=new", "a/t= a/x=new", "a/t= a/y=new", "a/y=new"} {
		if got := lasts(d, []string{"a"}, k); got != want {
			t.Errorf("%d: %s, not %s", k, got, want)
		}
	}
	for _, x := range []struct {
		picks []int
		want  string
	}{
		{[]int{1, 1}, "a/t=newe a/x=old"}, // the bytes that it was given by its other name
		{[]int{2, 2}, "a/x=newer"},
		{[]int{3, 4, 1}, "a/t=thir a/x=newe"},
		{[]int{4, 5, 2}, "a/t=third a/y=newer"},
		{[]int{5, 1}, "a/y=newe"},
	} {
		if got := lasts(d, []string{"a"}, x.picks...); got != x.want {
			t.Errorf("%v: %s, not %s", x.picks, got, x.want)
		}
	}
}

// TestP1002RemovedComesBack: with the bytes that it had, of which some were not synced; a new file of its name is another one.
func TestP1002RemovedComesBack(t *testing.T) {
	d := made(t, 100)
	isOK(t, d.Append("a/x", []byte("ab")), d.Sync("a/x"), d.SyncDir("a"), d.Append("a/x", []byte("cd")), d.Remove("a/x"), d.Append("a/x", []byte("zzzzz")), d.Sync("a/x"))
	for _, x := range []struct {
		picks []int
		want  string
	}{{nil, "a/x=ab"}, {[]int{0, 1}, "a/x=abc"}, {[]int{0, 2}, "a/x=abcd"}, {[]int{1, 2}, ""}, {[]int{2, 1}, "a/x=zzzzz"}} {
		if got := lasts(d, []string{"a"}, x.picks...); got != x.want {
			t.Errorf("%v: %s, not %s", x.picks, got, x.want)
		}
	}
	d.Crash(0, 1)
	d.On()
	isOK(t, d.Append("a/x", []byte("Z")))
	if got := told(d, "a"); got != "a/x=abcZ" {
		t.Errorf("%s", got)
	}
	if got := lasts(d, []string{"a"}); got != "a/x=abc" {
		t.Errorf("%s", got)
	}
}

// TestP1002Orders: directories go in their order, files in that of their whole names, in which - and . stand ahead of the /.
func TestP1002Orders(t *testing.T) {
	dirs := []string{"a", "a-", "a.", "aa"}
	d := made(t, 100)
	for _, name := range []string{"aa/x", "a./x", "a/y", "a/x", "a-/x"} {
		isOK(t, d.Append(name, []byte("123456789")))
	}
	if got := lasts(d, dirs, 2, 1, 1, 1, 1, 2, 3, 4, 5); got != "a/x=123 a/y=1234 a-/x=1 a./x=12 aa/x=12345" {
		t.Errorf("%s", got)
	}
	if got := lasts(d, dirs, 1, 0, 1, 0, 7, 8); got != "a/y=12345678 a./x=1234567" {
		t.Errorf("%s", got)
	}
	isOK(t, d.SyncDir("a-"), d.SyncDir("aa"), d.Sync("a/x"), d.Sync("aa/x"))
	if got := lasts(d, dirs, 2, 1, 3, 2, 1); got != "a/x=123456789 a/y=1 a-/x=123 a./x=12 aa/x=123456789" {
		t.Errorf("picks for those alone that have something to lose: %s", got)
	}
}

// TestP1002Picks: numbers that are too great or below 0, up to the last ones.
func TestP1002Picks(t *testing.T) {
	for n := 1; n <= 9; n++ {
		d := made(t, 100)
		isOK(t, d.Append("a/x", make([]byte, n)), d.SyncDir("a"))
		for _, p := range []int{math.MinInt, math.MinInt + 1, -100, -11, -10, -9, -8, -7, -6, -5, -4, -3, -2, -1, 0, 1, 2, 3, 4, 5, 6, 7, 8, 9, 10, 11, 100, math.MaxInt - 1, math.MaxInt} {
			want := p % (n + 1)
			if want < 0 {
				want += n + 1
			}
			twin := d.Twin()
			twin.Crash(p)
			twin.On()
			if got, err := twin.Size("a/x"); got != want || err != api.OK {
				t.Errorf("%d of %d: %d, %v, not %d", p, n, got, err, want)
			}
		}
	}
}

// TestP1002Again: what lasted once, lasts; what did not, comes not back.
func TestP1002Again(t *testing.T) {
	d := made(t, 100)
	isOK(t, d.Append("a/x", []byte("abc")), d.Append("a/y", []byte("d")), d.Remove("a/x"))
	d.Crash(2, 2, 1)
	d.Crash(1, 1, 1)
	d.On()
	d.On()
	want := "a/x=ab a/y=d"
	if got := told(d, "a"); got != want {
		t.Fatalf("%s", got)
	}
	for _, picks := range [][]int{nil, {1, 1, 1}, {-1, -1, -1}} {
		if got := lasts(d, []string{"a"}, picks...); got != want {
			t.Errorf("%v: %s", picks, got)
		}
	}
	isOK(t, d.Append("a/x", []byte("Z")), d.Append("a/z", nil))
	if got := lasts(d, []string{"a"}, 1, 1); got != "a/x=abZ a/y=d a/z=" {
		t.Errorf("%s", got)
	}
	if got := lasts(d, []string{"a"}); got != want {
		t.Errorf("%s", got)
	}
}

// TestP1002OnWithPower: On where there is power changes nothing but that an Arm goes.
func TestP1002OnWithPower(t *testing.T) {
	d := made(t, 100)
	isOK(t, d.Append("a/x", []byte("abc")))
	d.Arm(1)
	d.On()
	isOK(t, d.Append("a/x", []byte("d")), d.Sync("a/x"))
	if d.Off() || told(d, "a") != "a/x=abcd" || d.Calls() != 3 {
		t.Errorf("%v, %s, %d", d.Off(), told(d, "a"), d.Calls())
	}
	if got := lasts(d, []string{"a"}); got != "" {
		t.Errorf("On let it last: %s", got)
	}
}

// fiveCalls: a row of calls of all five kinds, each of which would be OK behind those ahead of it.
func fiveCalls(d *disk.Disk) []func() api.Errno {
	return []func() api.Errno{
		func() api.Errno { return d.Append("a/x", []byte("abc")) },
		func() api.Errno { return d.Sync("a/x") },
		func() api.Errno { return d.Rename("a/x", "a/y") },
		func() api.Errno { return d.SyncDir("a") },
		func() api.Errno { return d.Rename("a/y", "a/y") },
		func() api.Errno { return d.Append("a/y", nil) },
		func() api.Errno { return d.SyncDir("none") },
		func() api.Errno { return d.Remove("a/y") },
		func() api.Errno { return d.Append("a/z", []byte("!")) },
	}
}

// noCalls does what is no call by which an Arm counts: what is refused, and what only tells.
func noCalls(d *disk.Disk) {
	d.Append("a", nil)
	d.Append("a/w", make([]byte, 1000))
	d.Append("a/w", make([]byte, api.MaxFile+1))
	d.Sync("a/w")
	d.Rename("a/w", "a/v")
	d.Rename("a/w", "b/w")
	d.Remove("a/w")
	d.SyncDir("a/w")
	d.Read("a/x")
	d.Size("a/x")
	d.List("a")
	d.Used()
	d.Twin().Append("a/w", nil)
}

// TestP1002Arm: at whichever call, it is not done, and the power goes by the picks; then all goes on.
func TestP1002Arm(t *testing.T) {
	count := len(fiveCalls(made(t, 0)))
	for n := 1; n <= count+1; n++ {
		for _, picks := range [][]int{nil, {0}, {1, 1}, {1, 2}, {2, 3, 1}, {-1, -1, -1}} {
			d := made(t, 100)
			d.Arm(n, picks...)
			want := ""
			for k, call := range fiveCalls(d) {
				noCalls(d)
				if k == n-1 {
					want = lasts(d, []string{"a"}, picks...)
					is(t, "armed", call(), api.ErrDown)
					break
				}
				isOK(t, call())
			}
			if done := min(n-1, count); d.Calls() != done || d.Off() != (n <= count) {
				t.Errorf("%d, %v: %d calls, %v", n, picks, d.Calls(), d.Off())
			}
			if n > count {
				continue
			}
			noCalls(d)
			d.On()
			if got := told(d, "a"); got != want || d.Calls() != n-1 {
				t.Errorf("%d, %v: %s, %d calls, not %s", n, picks, got, d.Calls(), want)
			}
			isOK(t, d.Append("b/x", nil), d.SyncDir("b"))
		}
	}
}

// TestP1002ArmByHand: the call at which the power goes is done in no part.
func TestP1002ArmByHand(t *testing.T) {
	d := made(t, 100)
	isOK(t, d.Append("a/x", []byte("ab")), d.SyncDir("a"))
	for k, call := range []func(d *disk.Disk) api.Errno{
		func(d *disk.Disk) api.Errno { return d.Append("a/x", []byte("cd")) },
		func(d *disk.Disk) api.Errno { return d.Append("a/y", []byte("cd")) },
		func(d *disk.Disk) api.Errno { return d.Sync("a/x") },
		func(d *disk.Disk) api.Errno { return d.Rename("a/x", "a/y") },
		func(d *disk.Disk) api.Errno { return d.Rename("a/x", "a/x") },
		func(d *disk.Disk) api.Errno { return d.Remove("a/x") },
		func(d *disk.Disk) api.Errno { return d.SyncDir("a") },
	} {
		twin := d.Twin()
		twin.Arm(1, 1, 1, 1)
		is(t, "armed", call(twin), api.ErrDown)
		if !twin.Off() || twin.Calls() != 2 {
			t.Errorf("%d: %v, %d", k, twin.Off(), twin.Calls())
		}
		twin.On()
		if got := told(twin, "a"); got != "a/x=a" {
			t.Errorf("%d: %s", k, got)
		}
	}
	twin := d.Twin()
	isOK(t, twin.Remove("a/x"))
	twin.Arm(1, 0, 2)
	is(t, "armed", twin.SyncDir("a"), api.ErrDown)
	twin.On()
	if got := told(twin, "a"); got != "a/x=ab" {
		t.Errorf("%s", got)
	}
}

// TestP1002ArmGoes: with another Arm, with a Crash, with On, and when it has done its work.
func TestP1002ArmGoes(t *testing.T) {
	for name, work := range map[string]func(d *disk.Disk){
		"Arm(0)":         func(d *disk.Disk) { d.Arm(0, 1, 2) },
		"Arm(-1)":        func(d *disk.Disk) { d.Arm(-1) },
		"Arm(MinInt)":    func(d *disk.Disk) { d.Arm(math.MinInt) },
		"Arm(MaxInt)":    func(d *disk.Disk) { d.Arm(math.MaxInt) },
		"Arm(9)":         func(d *disk.Disk) { d.Arm(9) },
		"On":             func(d *disk.Disk) { d.On() },
		"Crash, On":      func(d *disk.Disk) { d.Crash(); d.On() },
		"Crash, Arm, On": func(d *disk.Disk) { d.Crash(); d.Arm(1); d.On() },
		"its work":       func(d *disk.Disk) { d.SyncDir("a"); d.SyncDir("a"); d.On() },
	} {
		d := made(t, 100)
		d.Arm(2)
		work(d)
		if d.Append("b/x", nil) != api.OK || d.Sync("b/x") != api.OK || d.SyncDir("b") != api.OK || d.Off() {
			t.Errorf("%s: it is still armed", name)
		}
	}
	d := made(t, 100)
	d.Arm(5)
	isOK(t, d.SyncDir("a"), d.SyncDir("a"))
	d.Arm(3)
	isOK(t, d.SyncDir("a"), d.SyncDir("a"))
	is(t, "the newer one", d.SyncDir("a"), api.ErrDown)
}

// TestP1002PicksAreNotKept: neither changed nor kept, with their spare room.
func TestP1002PicksAreNotKept(t *testing.T) {
	d := made(t, 100)
	isOK(t, d.Append("a/x", []byte("abc")))
	picks := []int{1, 2, 7, 7}
	d.Arm(1, picks[:2]...)
	picks[0], picks[1] = 0, 0
	is(t, "armed", d.Sync("a/x"), api.ErrDown)
	d.On()
	if got := told(d, "a"); got != "a/x=ab" || !slices.Equal(picks, []int{0, 0, 7, 7}) {
		t.Errorf("%s, %v", got, picks)
	}
	isOK(t, d.Append("a/x", []byte("cde")), d.Append("b/x", nil))
	picks = []int{9, 9, 7, 7}
	d.Crash(picks[:2]...)
	d.On()
	if got := told(d, "a", "b"); got != "a/x=abc b/x=" || !slices.Equal(picks, []int{9, 9, 7, 7}) {
		t.Errorf("%s, %v", got, picks)
	}
}

// TestP1002Twin: the same now and when the power goes; what is done to one, is not done to the other.
func TestP1002Twin(t *testing.T) {
	dirs := []string{"a", "b"}
	d := made(t, 50)
	isOK(t, d.Append("a/x", []byte("ab")), d.Sync("a/x"), d.SyncDir("a"), d.Append("a/x", []byte("cd")), d.Append("a/y", []byte("ef")), d.Rename("a/x", "a/z"), d.Append("b/x", []byte("gh")), d.Remove("b/x"))
	twin := d.Twin()
	third := twin.Twin()
	isOK(t, d.Append("a/z", []byte("1")), d.Append("a/y", []byte("2")), d.Sync("a/z"), d.Append("b/y", nil), d.SyncDir("b"))
	isOK(t, twin.Append("a/z", []byte("345")), twin.Remove("a/y"), twin.Sync("a/z"), twin.SyncDir("a"))
	for _, x := range []struct {
		d           *disk.Disk
		now         string
		calls, used int
		picks       []int
		last        string
	}{
		{d, "a/y=ef2 a/z=abcd1 b/y=", 13, 8, []int{2, 3}, "a/y=ef2 a/z=abcd1 b/y="},
		{d, "a/y=ef2 a/z=abcd1 b/y=", 13, 8, []int{1, 2}, "a/x=abcd1 a/y=ef b/y="},
		{twin, "a/z=abcd345", 12, 7, []int{1, 1}, "a/z=abcd345 b/x=g"},
		{third, "a/y=ef a/z=abcd", 8, 6, []int{1, 1, 1, 2, 2}, "a/x=abc a/y=ef b/x=gh"},
		{third, "a/y=ef a/z=abcd", 8, 6, []int{2, 2, 1, 1}, "a/y=e a/z=abc"},
		{third, "a/y=ef a/z=abcd", 8, 6, nil, "a/x=ab"},
	} {
		if got := told(x.d, dirs...); got != x.now || x.d.Calls() != x.calls || x.d.Used() != x.used || x.d.Quota() != 50 {
			t.Errorf("%s, %d calls, %d bytes, not %s", got, x.d.Calls(), x.d.Used(), x.now)
		}
		if got := lasts(x.d, dirs, x.picks...); got != x.last {
			t.Errorf("%v: %s, not %s", x.picks, got, x.last)
		}
	}
	d.Crash()
	if twin.Off() || third.Off() || !d.Twin().Off() {
		t.Error("the power of one is that of another")
	}
}

// TestP1002TwinIsArmed: at the same call, by the same picks, each for itself.
func TestP1002TwinIsArmed(t *testing.T) {
	d := made(t, 50)
	d.Arm(3, 1, 2)
	isOK(t, d.Append("a/x", []byte("abc")))
	twin := d.Twin()
	free := d.Twin()
	free.Arm(0)
	isOK(t, d.Append("a/x", []byte("d")), twin.SyncDir("b"))
	third := twin.Twin()
	for k, x := range []struct {
		d    *disk.Disk
		want string
	}{{d, "a/x=ab"}, {twin, "a/x=ab"}, {third, "a/x=ab"}} {
		is(t, "armed", x.d.Sync("a/x"), api.ErrDown)
		x.d.On()
		if got := told(x.d, "a"); got != x.want || x.d.Calls() != 2 {
			t.Errorf("%d: %s, %d calls", k, got, x.d.Calls())
		}
	}
	isOK(t, free.Sync("a/x"), free.Sync("a/x"), free.Sync("a/x"))
}

// TestP3DiskSame: the same calls on two disks answer the same, however their maps are gone through.
func TestP3DiskSame(t *testing.T) {
	want := ""
	for k := range 50 {
		d := made(t, 1000)
		for _, name := range []string{"q/1", "b/2", "z/3", "a/4", "m/5", "a-/6", "a./7", "a/8", "q/9", "zz/0"} {
			isOK(t, d.Append(name, []byte(name+name)))
		}
		got := lasts(d, []string{"a", "a-", "a.", "b", "m", "q", "z", "zz"}, 1, 1, 1, 1, 1, 2, 1, 1, 1, 2, 3, 4, 5, 6, 7, 0)
		if k == 0 {
			want = got
		}
		if got != want {
			t.Fatalf("%s, not %s", got, want)
		}
	}
}
