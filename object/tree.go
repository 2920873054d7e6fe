package object

import (
	"strconv"
	"strings"

	"trove/api"
)

const (
	treeMode = 0o40000
	linkMode = 0o160000 // a commit of another store: nothing leads there
)

var modes = [...]int{treeMode, 0o100644, 0o100755, 0o120000, linkMode}

// nameEnd stands behind an entry's name, which has none of it.
const nameEnd = "\x00"

// EncodeTree answers the bytes of a tree.
func EncodeTree(l []Entry) ([]byte, api.Errno) {
	switch {
	case len(l) > api.MaxItems || !areEntries(l):
		return nil, api.ErrArg
	case !rise(l):
		return nil, api.ErrForm
	}
	var out []byte
	for _, e := range l {
		out = append(out, octal(e.Mode)+" "+e.Name+nameEnd...)
		out = append(out, e.ID[:]...)
	}
	return bounded(out)
}

// DecodeTree answers the entries of a tree.
func DecodeTree(b []byte) ([]Entry, api.Errno) {
	p, err := parse(api.Tree, b)
	return p.entries, err
}

// Order tells which of two entries stands ahead of the other in a tree.
func Order(a, b Entry) int {
	return strings.Compare(a.place(), b.place())
}

// place is what an entry's place hangs on.
func (e Entry) place() string {
	if e.Mode == treeMode {
		return e.Name + "/"
	}
	return e.Name
}

func (r *reader) tree() parsed {
	var p parsed
	for r.left != "" {
		p.entries = append(p.entries, r.entry())
	}
	r.need(areEntries(p.entries) && rise(p.entries), api.ErrForm)
	r.need(len(p.entries) <= api.MaxItems, api.ErrLong)
	for _, e := range p.entries {
		if e.Mode != linkMode {
			p.edges = append(p.edges, e.ID)
		}
	}
	return p
}

func (r *reader) entry() Entry {
	var e Entry
	e.Mode = modeOf(r.cut(until(" ")))
	e.Name = r.cut(until(nameEnd))
	copy(e.ID[:], r.cut(sized(len(e.ID))))
	return e
}

func areEntries(l []Entry) bool {
	for _, e := range l {
		if !isMode(e.Mode) || !isEntryName(e.Name) {
			return false
		}
	}
	return true
}

func isEntryName(s string) bool {
	switch s {
	case "", ".", "..", ".git":
		return false
	}
	return len(s) <= api.MaxName && !strings.ContainsAny(s, "/"+nameEnd)
}

// rise tells whether the entries stand in their order, and no name comes twice: a tree's may be far from a file's.
func rise(l []Entry) bool {
	seen := map[string]struct{}{}
	for k, e := range l {
		if k > 0 && Order(l[k-1], e) >= 0 {
			return false
		}
		seen[e.Name] = struct{}{}
	}
	return len(seen) == len(l)
}

// modeOf answers the mode that has the digits, or 0, which is none.
func modeOf(digits string) int {
	for _, mode := range modes {
		if octal(mode) == digits {
			return mode
		}
	}
	return 0
}

func isMode(mode int) bool { return modeOf(octal(mode)) != 0 }

func octal(mode int) string { return strconv.FormatInt(int64(mode), 8) }
