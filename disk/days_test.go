package disk_test

import (
	"math"
	"math/rand"
	"slices"
	"testing"

	"trove/api"
	"trove/disk"
)

// day: a disk, the model of it, and what is done to both by numbers that a source answers.
type day struct {
	t      *testing.T
	source func(n int) int // from 0 on, below n
	d      *disk.Disk
	m      *slowDisk
	last   byte // the newest one that was put, so that no two are alike for long
}

// fewDirs: the bytes - and . stand ahead of the /, so that names are not in the order of their directories.
func fewDirs() []string { return []string{"a", "a-", "a.b", "b"} }

func fewNames() []string {
	var l []string
	for _, dir := range fewDirs() {
		for _, file := range []string{"x", "y", "z"} {
			l = append(l, dir+"/"+file)
		}
	}
	return l
}

func wrongNames() []string {
	return []string{"", "a", "/", "a/", "/x", "a/.", "a/..", "./x", "../x", "a/x/", "a//x", "a/b/c", "a/x y", "a\\x", "a/\u00e4"}
}

func wrongDirs() []string { return []string{"", ".", "..", "/", "a/", "a/x", "a b", "\u00e4"} }

func allNames() []string { return slices.Concat(fewNames(), wrongNames()) }

func allDirs() []string { return slices.Concat(fewDirs(), []string{"c"}, wrongDirs()) }

// one answers an element; seldom one of the wrong ones.
func (y *day) one(right, wrong []string) string {
	if y.source(20) == 0 {
		return wrong[y.source(len(wrong))]
	}
	return right[y.source(len(right))]
}

func (y *day) name() string { return y.one(fewNames(), wrongNames()) }

func (y *day) bytes() []byte {
	b := make([]byte, y.source(6))
	for k := range b {
		y.last++
		b[k] = y.last
	}
	return b
}

func (y *day) picks() []int {
	l := make([]int, y.source(8))
	for k := range l {
		l[k] = y.source(16) - 5
		if y.source(30) == 0 {
			l[k] = []int{math.MinInt, math.MaxInt}[y.source(2)]
		}
	}
	return l
}

func (y *day) same(what string, got, want api.Errno) {
	y.t.Helper()
	if got != want {
		y.t.Fatalf("%s: %v, not %v", what, got, want)
	}
}

// step does one thing to both.
func (y *day) step() {
	y.t.Helper()
	switch y.source(16) {
	case 0, 1, 2, 3, 4:
		name, b := y.name(), y.bytes()
		y.same("Append", y.d.Append(name, b), y.m.append(name, string(b)))
	case 5, 6:
		name := y.name()
		y.same("Sync", y.d.Sync(name), y.m.sync(name))
	case 7, 8, 9:
		from, to := y.name(), y.name()
		if y.source(3) > 0 { // else few of them would stay in their directory
			to = from[:max(0, len(from)-1)] + "xyz"[y.source(3):][:1]
		}
		y.same("Rename", y.d.Rename(from, to), y.m.rename(from, to))
	case 10, 11:
		name := y.name()
		y.same("Remove", y.d.Remove(name), y.m.remove(name))
	case 12:
		dir := y.one(fewDirs(), wrongDirs())
		y.same("SyncDir", y.d.SyncDir(dir), y.m.syncDir(dir))
	case 13:
		n, picks := y.source(12)-2, y.picks()
		y.d.Arm(n, picks...)
		y.m.arm(n, picks)
	case 14:
		if y.source(3) == 0 {
			picks := y.picks()
			y.d.Crash(picks...)
			y.m.crash(picks)
		}
	case 15:
		if y.m.off || y.source(4) == 0 {
			y.d.On()
			y.m.on()
		}
	}
}

// run does so many things, to twins of twins too, and looks at all of them at the end.
func (y *day) run(steps int) {
	y.t.Helper()
	others := []*day{}
	for range steps {
		if y.source(12) == 0 && len(others) < 5 {
			others = append(others, &day{t: y.t, source: y.source, d: y.d.Twin(), m: y.m.twin(), last: y.last + 100})
		}
		if len(others) > 0 && y.source(10) == 0 {
			k := y.source(len(others))
			y.d, others[k].d = others[k].d, y.d
			y.m, others[k].m = others[k].m, y.m
		}
		y.step()
		y.check()
	}
	for _, other := range others {
		other.check()
	}
}

func (y *day) check() {
	y.t.Helper()
	checkSame(y.t, y.d, y.m, allNames(), allDirs())
	checkLasts(y.t, y.d, y.m, fewNames(), fewDirs(), y.picks()...)
}

func newDay(t *testing.T, quota int, source func(n int) int) *day {
	d, err := disk.New(quota)
	if err != api.OK {
		t.Fatal(err)
	}
	return &day{t: t, source: source, d: d, m: newSlow(quota)}
}

// TestP1002Days: whatever is done, a disk tells what the model does, and so do its twins.
func TestP1002Days(t *testing.T) {
	random := rand.New(rand.NewSource(1002))
	for range 400 {
		newDay(t, []int{0, 7, 20, 1000}[random.Intn(4)], random.Intn).run(120)
	}
}

func FuzzDays(f *testing.F) {
	random := rand.New(rand.NewSource(1003))
	for range 20 {
		b := make([]byte, 400)
		random.Read(b)
		f.Add(b)
	}
	f.Fuzz(func(t *testing.T, b []byte) {
		source := func(n int) int {
			if len(b) == 0 {
				return 0
			}
			v := int(b[0]) % n
			b = b[1:]
			return v
		}
		newDay(t, source(40), source).run(min(len(b)/4, 100))
	})
}
