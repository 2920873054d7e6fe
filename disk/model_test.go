package disk_test

import (
	"maps"
	"regexp"
	"slices"
	"strings"
	"testing"

	"trove/api"
	"trove/disk"
)

// slowFile: a file by its bytes, of which the first ones were synced.
type slowFile struct {
	data   string
	synced int
}

// slowDisk keeps of each directory all its states since the last sync, each whole: files by their numbers.
type slowDisk struct {
	quota  int
	files  []slowFile // none is forgotten
	states map[string][]map[string]int
	off    bool
	calls  int
	left   int
	picks  []int
}

func newSlow(quota int) *slowDisk {
	return &slowDisk{quota: quota, states: map[string][]map[string]int{}}
}

var (
	slowPart = regexp.MustCompile(`^[a-zA-Z0-9._-]{1,100}$`)
	slowDots = regexp.MustCompile(`^\.{1,2}$`)
)

func slowIsPart(s string) bool { return slowPart.MatchString(s) && !slowDots.MatchString(s) }

func slowName(s string) bool {
	l := strings.Split(s, "/")
	return len(l) == 2 && slowIsPart(l[0]) && slowIsPart(l[1])
}

func (m *slowDisk) twin() *slowDisk {
	twin := *m
	twin.files = slices.Clone(m.files)
	twin.picks = slices.Clone(m.picks)
	twin.states = map[string][]map[string]int{}
	for dir, l := range m.states {
		for _, state := range l {
			twin.states[dir] = append(twin.states[dir], maps.Clone(state))
		}
	}
	return &twin
}

// names: all files that there are, by their whole names.
func (m *slowDisk) names() map[string]int {
	all := map[string]int{}
	for dir, l := range m.states {
		for name, number := range l[len(l)-1] {
			all[dir+"/"+name] = number
		}
	}
	return all
}

// change puts a state behind the others of a directory.
func (m *slowDisk) change(dir string, work func(state map[string]int)) {
	if len(m.states[dir]) == 0 {
		m.states[dir] = []map[string]int{{}}
	}
	l := m.states[dir]
	state := maps.Clone(l[len(l)-1])
	work(state)
	m.states[dir] = append(l, state)
}

// call answers whether the power stays, for a call that would be OK.
func (m *slowDisk) call() bool {
	if m.left > 0 {
		m.left--
		if m.left == 0 {
			m.crash(m.picks)
			return false
		}
	}
	m.calls++
	return true
}

func (m *slowDisk) append(name string, b string) api.Errno {
	number, there := m.names()[name]
	size := 0
	if there {
		size = len(m.files[number].data)
	}
	switch {
	case m.off:
		return api.ErrDown
	case !slowName(name):
		return api.ErrArg
	case size+len(b) > 262144:
		return api.ErrLong
	case m.used()+len(b) > m.quota, !there && len(m.names()) > 1023:
		return api.ErrFull
	case !m.call():
		return api.ErrDown
	}
	if !there {
		number = len(m.files)
		m.files = append(m.files, slowFile{})
		dir, file, _ := strings.Cut(name, "/")
		m.change(dir, func(state map[string]int) { state[file] = number })
	}
	m.files[number].data += b
	return api.OK
}

func (m *slowDisk) sync(name string) api.Errno {
	number, there := m.names()[name]
	switch {
	case m.off:
		return api.ErrDown
	case !there:
		return api.ErrNone
	case !m.call():
		return api.ErrDown
	}
	m.files[number].synced = len(m.files[number].data)
	return api.OK
}

func (m *slowDisk) rename(from, to string) api.Errno {
	dir, old, _ := strings.Cut(from, "/")
	other, file, _ := strings.Cut(to, "/")
	number, there := m.names()[from]
	switch {
	case m.off:
		return api.ErrDown
	case !slowName(from), !slowName(to), dir != other:
		return api.ErrArg
	case !there:
		return api.ErrNone
	case !m.call():
		return api.ErrDown
	}
	if from != to {
		m.change(dir, func(state map[string]int) {
			delete(state, old)
			state[file] = number
		})
	}
	return api.OK
}

func (m *slowDisk) remove(name string) api.Errno {
	_, there := m.names()[name]
	switch {
	case m.off:
		return api.ErrDown
	case !there:
		return api.ErrNone
	case !m.call():
		return api.ErrDown
	}
	dir, file, _ := strings.Cut(name, "/")
	m.change(dir, func(state map[string]int) { delete(state, file) })
	return api.OK
}

func (m *slowDisk) syncDir(dir string) api.Errno {
	switch {
	case m.off:
		return api.ErrDown
	case !slowIsPart(dir):
		return api.ErrArg
	case !m.call():
		return api.ErrDown
	}
	if l := m.states[dir]; len(l) > 0 {
		m.states[dir] = l[len(l)-1:]
	}
	return api.OK
}

func (m *slowDisk) used() int {
	sum := 0
	for _, number := range m.names() {
		sum += len(m.files[number].data)
	}
	return sum
}

func (m *slowDisk) crash(picks []int) {
	m.off, m.left = true, 0
	pick := func(n int) int {
		if len(picks) == 0 {
			return 0
		}
		p := picks[0]
		picks = picks[1:]
		return (p%n + n) % n
	}
	for _, dir := range slices.Sorted(maps.Keys(m.states)) {
		if l := m.states[dir]; len(l) > 1 {
			m.states[dir] = []map[string]int{l[pick(len(l))]}
		}
	}
	there := m.names()
	for _, name := range slices.Sorted(maps.Keys(there)) {
		f := &m.files[there[name]]
		if n := len(f.data) - f.synced; n > 0 {
			f.data = f.data[:f.synced+pick(n+1)]
			f.synced = len(f.data)
		}
	}
}

func (m *slowDisk) arm(n int, picks []int) { m.left, m.picks = max(n, 0), slices.Clone(picks) }

func (m *slowDisk) on() { m.off, m.left = false, 0 }

// list: the names of a directory's files.
func (m *slowDisk) list(dir string) []string {
	l := m.states[dir]
	if len(l) == 0 {
		return nil
	}
	return slices.Sorted(maps.Keys(l[len(l)-1]))
}

// checkSame holds all that a disk tells against the model.
func checkSame(t *testing.T, d *disk.Disk, m *slowDisk, names, dirs []string) {
	t.Helper()
	used := m.used()
	if m.off {
		used = 0
	}
	if d.Off() != m.off || d.Calls() != m.calls || d.Quota() != m.quota || d.Used() != used {
		t.Fatalf("off %v, calls %d, quota %d, used %d; not %v, %d, %d, %d", d.Off(), d.Calls(), d.Quota(), d.Used(), m.off, m.calls, m.quota, used)
	}
	there := m.names()
	for _, name := range names {
		want, wantErr := "", api.ErrNone
		if number, ok := there[name]; ok {
			want, wantErr = m.files[number].data, api.OK
		}
		if m.off {
			want, wantErr = "", api.ErrDown
		}
		if b, err := d.Read(name); string(b) != want || err != wantErr {
			t.Fatalf("Read(%q): %q, %v; not %q, %v", name, b, err, want, wantErr)
		}
		if n, err := d.Size(name); n != len(want) || err != wantErr {
			t.Fatalf("Size(%q): %d, %v; not %d, %v", name, n, err, len(want), wantErr)
		}
	}
	for _, dir := range dirs {
		want, wantErr := m.list(dir), api.OK
		if !slowIsPart(dir) {
			want, wantErr = nil, api.ErrArg
		}
		if m.off {
			want, wantErr = nil, api.ErrDown
		}
		if l, err := d.List(dir); !slices.Equal(l, want) || err != wantErr {
			t.Fatalf("List(%q): %q, %v; not %q, %v", dir, l, err, want, wantErr)
		}
	}
}

// checkLasts holds against the model what there is when the power goes and comes, without touching the two.
func checkLasts(t *testing.T, d *disk.Disk, m *slowDisk, names, dirs []string, picks ...int) {
	t.Helper()
	d, m = d.Twin(), m.twin()
	d.Crash(picks...)
	m.crash(picks)
	checkSame(t, d, m, names, dirs)
	d.On()
	m.on()
	checkSame(t, d, m, names, dirs)
}
