package object

import (
	"strings"

	"trove/api"
)

// parsed is what an object's bytes say: what is not of its kind is zero.
type parsed struct {
	entries []Entry
	commit  CommitData
	tag     TagData
	edges   []api.ID // what it leads to, in the order in which it is named
}

// parser reads a whole object.
type parser func(r *reader) parsed

// parsers: of each kind.
func parsers() []parser {
	return []parser{
		api.Commit: (*reader).commit,
		api.Tree:   (*reader).tree,
		api.Blob:   (*reader).blob,
		api.Tag:    (*reader).tag,
	}
}

// parse answers what b says as an object of the kind.
func parse(kind int, b []byte) (parsed, api.Errno) {
	switch {
	case !isKind(kind):
		return parsed{}, api.ErrArg
	case len(b) > api.MaxObject:
		return parsed{}, api.ErrLong
	}
	r := &reader{left: string(b)}
	p := parsers()[kind](r)
	if r.err != api.OK {
		return parsed{}, r.err
	}
	return p, api.OK
}

// cutter cuts a piece off a text's front: the piece, and what is left.
type cutter func(s string) (piece, left string, ok bool)

// until cuts ahead of the first end, and drops the end.
func until(end string) cutter {
	return func(s string) (piece, left string, ok bool) {
		return strings.Cut(s, end)
	}
}

// sized cuts behind n bytes.
func sized(n int) cutter {
	return func(s string) (piece, left string, ok bool) {
		if len(s) < n {
			return "", "", false
		}
		return s[:n], s[n:], true
	}
}

// line cuts off a whole line that begins with word, and drops all of it but the text behind the word.
func line(word string) cutter {
	toEnd := until(lineEnd)
	return func(s string) (piece, left string, ok bool) {
		text, begins := strings.CutPrefix(s, word+" ")
		if !begins {
			return "", "", false
		}
		return toEnd(text)
	}
}

// reader takes an object's bytes from the front on; its first fault stays.
type reader struct {
	left string
	err  api.Errno
}

// need makes it a fault, if something does not hold.
func (r *reader) need(holds bool, err api.Errno) {
	if !holds && r.err == api.OK {
		r.err = err
	}
}

// cut takes a piece; where there is none, nothing is left, so that no loop goes on.
func (r *reader) cut(by cutter) string {
	piece, left, ok := by(r.left)
	if !ok {
		piece, left = "", ""
	}
	r.need(ok, api.ErrForm)
	r.left = left
	return piece
}

// blob: its bytes say nothing.
func (r *reader) blob() parsed { return parsed{} }
