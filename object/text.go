package object

import (
	"strconv"
	"strings"

	"trove/api"
	"trove/oid"
)

const (
	lineEnd   = "\n"
	maxText   = 200 // bytes of who made a commit or a tag
	maxDigits = 10  // of a date
)

// field is a line: a word, a blank and a text.
type field struct{ word, text string }

// EncodeCommit answers the bytes of a commit.
func EncodeCommit(c CommitData) ([]byte, api.Errno) {
	if !c.mayBe() {
		return nil, api.ErrArg
	}
	l := []field{{"tree", oid.Hex(c.Tree)}}
	for _, id := range c.Parents {
		l = append(l, field{"parent", oid.Hex(id)})
	}
	l = append(l, field{"author", c.Author}, field{"committer", c.Committer})
	return bounded(written(l, c.Message))
}

// DecodeCommit answers what a commit's bytes say.
func DecodeCommit(b []byte) (CommitData, api.Errno) {
	p, err := parse(api.Commit, b)
	return p.commit, err
}

// EncodeTag answers the bytes of a tag.
func EncodeTag(t TagData) ([]byte, api.Errno) {
	if !t.mayBe() {
		return nil, api.ErrArg
	}
	l := []field{{"object", oid.Hex(t.Object)}, {"type", Word(t.Kind)}, {"tag", t.Name}, {"tagger", t.Tagger}}
	return bounded(written(l, t.Message))
}

// DecodeTag answers what a tag's bytes say.
func DecodeTag(b []byte) (TagData, api.Errno) {
	p, err := parse(api.Tag, b)
	return p.tag, err
}

// Date answers when a commit was made, as its committer tells.
func Date(c CommitData) int {
	l := strings.FieldsFunc(c.Committer, func(r rune) bool { return r == ' ' })
	if len(l) < 2 {
		return 0
	}
	return decimal(l[len(l)-2])
}

// decimal answers the number that s has the digits of, or 0.
func decimal(s string) int {
	if len(s) > maxDigits || strings.Trim(s, "0123456789") != "" {
		return 0
	}
	v, _ := strconv.Atoi(s) // such digits are always a number
	return v
}

// written answers the lines, an empty one behind them, and the message.
func written(l []field, message string) []byte {
	var out []byte
	for _, f := range l {
		out = append(out, f.word+" "+f.text+lineEnd...)
	}
	return append(out, lineEnd+message...)
}

func (r *reader) commit() parsed {
	var c CommitData
	c.Tree = r.id("tree")
	for strings.HasPrefix(r.left, "parent ") {
		c.Parents = append(c.Parents, r.id("parent"))
	}
	c.Author = r.cut(line("author"))
	c.Committer = r.cut(line("committer"))
	c.Message = r.message()
	r.need(c.mayBe(), api.ErrForm)
	return parsed{commit: c, edges: append([]api.ID{c.Tree}, c.Parents...)}
}

func (r *reader) tag() parsed {
	var t TagData
	t.Object = r.id("object")
	t.Kind, _ = KindOf(r.cut(line("type"))) // 0, which is no kind, is found below
	t.Name = r.cut(line("tag"))
	t.Tagger = r.cut(line("tagger"))
	t.Message = r.message()
	r.need(t.mayBe(), api.ErrForm)
	return parsed{tag: t, edges: []api.ID{t.Object}}
}

// id takes a line of a name.
func (r *reader) id(word string) api.ID {
	id, err := oid.Parse(r.cut(line(word)))
	r.need(err == api.OK, api.ErrForm)
	return id
}

// message takes the empty line, and all that is left.
func (r *reader) message() string {
	r.need(r.cut(until(lineEnd)) == "", api.ErrForm)
	return r.cut(sized(len(r.left)))
}

func (c CommitData) mayBe() bool {
	return isText(c.Author, maxText) && isText(c.Committer, maxText) &&
		len(c.Parents) <= api.MaxItems && len(oid.Sort(c.Parents)) == len(c.Parents)
}

func (t TagData) mayBe() bool {
	return isKind(t.Kind) && isText(t.Name, api.MaxName) && isText(t.Tagger, maxText)
}

// isText tells whether s may stand in a line.
func isText(s string, most int) bool {
	return s != "" && len(s) <= most && !strings.ContainsAny(s, "\x00"+lineEnd)
}
