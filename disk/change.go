package disk

import "slices"

// file: bytes that a name may lead to, another one later on, or none any more.
type file struct {
	data   []byte
	synced int // so many of them last, from the first on
}

func (f *file) put(b []byte) { f.data = append(f.data, b...) }

func (f *file) sync() { f.synced = len(f.data) }

// loose tells how many bytes may be lost.
func (f *file) loose() int { return len(f.data) - f.synced }

// cut leaves n of the bytes that may be lost.
func (f *file) cut(n int) {
	f.data = slices.Clone(f.data[:f.synced+n])
	f.sync()
}

func (f *file) twin() *file { return &file{data: slices.Clone(f.data), synced: f.synced} }

// change: what is done to the names of a directory, at once to those that there are, and later on to those that last. The files that its row made are told to it, and not kept in it, since a twin has its own.
type change func(names map[string]*file, files []*file)

// row: the changes of a directory since its last SyncDir, in their order.
type row struct {
	changes []change
	files   []*file // those that they made
}

// add does a change to names, and keeps it.
func (r *row) add(names map[string]*file, c change) {
	r.changes = append(r.changes, c)
	c(names, r.files)
}

// do does the first n changes to names.
func (r *row) do(names map[string]*file, n int) {
	for _, c := range r.changes[:n] {
		c(names, r.files)
	}
}

func (r *row) twin() *row {
	twin := &row{changes: slices.Clone(r.changes)}
	for _, f := range r.files {
		twin.files = append(twin.files, f.twin())
	}
	return twin
}

// made answers the change that a new, empty file has this name.
func (r *row) made(name string) change {
	place := len(r.files)
	r.files = append(r.files, &file{})
	return func(names map[string]*file, files []*file) { names[name] = files[place] }
}

func renamed(from, to string) change {
	return func(names map[string]*file, _ []*file) {
		names[to] = names[from]
		delete(names, from)
	}
}

func removed(name string) change {
	return func(names map[string]*file, _ []*file) { delete(names, name) }
}
