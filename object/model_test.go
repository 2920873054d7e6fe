package object_test

import (
	"bytes"
	"encoding/hex"
	"math/rand"
	"regexp"
	"slices"
	"strconv"
	"strings"
	"testing"

	"trove/api"
	"trove/object"
)

// The model reads objects by patterns alone. They speak of letters, so each byte is made one.

func letters(b []byte) string {
	var out []rune
	for _, v := range b {
		out = append(out, rune(v))
	}
	return string(out)
}

func bytesOf(s string) string {
	var out []byte
	for _, r := range s {
		out = append(out, byte(r))
	}
	return string(out)
}

var (
	slowCanon  = regexp.MustCompile(`(?s)^(commit|tree|blob|tag) (0|[1-9][0-9]*)\x00(.*)$`)
	slowEntry  = regexp.MustCompile(`(?s)^(40000|100644|100755|120000|160000) ([^/\x00]{1,100})\x00(.{20})`)
	slowDots   = regexp.MustCompile(`^(\.|\.\.|\.git)$`)
	slowCommit = regexp.MustCompile(`(?s)^tree ([0-9a-f]{40})\n((?:parent [0-9a-f]{40}\n)*)author ([^\x00\n]{1,200})\ncommitter ([^\x00\n]{1,200})\n\n(.*)$`)
	slowTag    = regexp.MustCompile(`(?s)^object ([0-9a-f]{40})\ntype (commit|tree|blob|tag)\ntag ([^\x00\n]{1,100})\ntagger ([^\x00\n]{1,200})\n\n(.*)$`)
	slowDate   = regexp.MustCompile(`(?s)(?:^| )([0-9]{1,10}) +[^ ]+ *$`)
)

func slowKind(word string) int {
	for kind, w := range kinds {
		if w == word {
			return kind
		}
	}
	return 0
}

func slowID(s string) api.ID {
	b, _ := hex.DecodeString(s)
	return api.ID(b)
}

func slowOpen(c []byte) (int, string, api.Errno) {
	m := slowCanon.FindStringSubmatch(letters(c))
	if m == nil {
		return 0, "", api.ErrForm
	}
	data := bytesOf(m[3])
	if n, err := strconv.Atoi(m[2]); err != nil || n != len(data) {
		return 0, "", api.ErrForm
	}
	if len(data) > api.MaxObject {
		return 0, "", api.ErrLong
	}
	return slowKind(m[1]), data, api.OK
}

func slowOrder(a, b object.Entry) int {
	place := func(e object.Entry) []byte {
		if e.Mode == dir {
			return append([]byte(e.Name), '/')
		}
		return []byte(e.Name)
	}
	return bytes.Compare(place(a), place(b))
}

// slowRises holds each entry against all others.
func slowRises(l []object.Entry) bool {
	for k, e := range l {
		for _, later := range l[k+1:] {
			if slowOrder(e, later) != -1 || e.Name == later.Name {
				return false
			}
		}
	}
	return true
}

func slowTree(b []byte) ([]object.Entry, api.Errno) {
	if len(b) > api.MaxObject {
		return nil, api.ErrLong
	}
	var l []object.Entry
	for s := letters(b); s != ""; {
		m := slowEntry.FindStringSubmatch(s)
		if m == nil || slowDots.MatchString(m[2]) {
			return nil, api.ErrForm
		}
		mode, _ := strconv.ParseInt(m[1], 8, 64)
		l = append(l, object.Entry{Mode: int(mode), Name: bytesOf(m[2]), ID: api.ID([]byte(bytesOf(m[3])))})
		s = s[len(m[0]):]
	}
	if !slowRises(l) {
		return nil, api.ErrForm
	}
	if len(l) > api.MaxItems {
		return nil, api.ErrLong
	}
	return l, api.OK
}

func slowCommitOf(b []byte) (object.CommitData, api.Errno) {
	if len(b) > api.MaxObject {
		return object.CommitData{}, api.ErrLong
	}
	m := slowCommit.FindStringSubmatch(letters(b))
	if m == nil {
		return object.CommitData{}, api.ErrForm
	}
	c := object.CommitData{Tree: slowID(m[1]), Author: bytesOf(m[3]), Committer: bytesOf(m[4]), Message: bytesOf(m[5])}
	for s := range strings.Lines(m[2]) {
		id := slowID(s[len("parent ") : len(s)-1])
		if slices.Contains(c.Parents, id) {
			return object.CommitData{}, api.ErrForm
		}
		c.Parents = append(c.Parents, id)
	}
	return c, api.OK
}

func slowTagOf(b []byte) (object.TagData, api.Errno) {
	if len(b) > api.MaxObject {
		return object.TagData{}, api.ErrLong
	}
	m := slowTag.FindStringSubmatch(letters(b))
	if m == nil {
		return object.TagData{}, api.ErrForm
	}
	return object.TagData{Object: slowID(m[1]), Kind: slowKind(m[2]), Name: bytesOf(m[3]), Tagger: bytesOf(m[4]), Message: bytesOf(m[5])}, api.OK
}

func slowDateOf(committer string) int {
	m := slowDate.FindStringSubmatch(letters([]byte(committer)))
	if m == nil {
		return 0
	}
	v, _ := strconv.Atoi(m[1])
	return v
}

// slowEdges: what the bytes lead to by the model.
func slowEdges(kind int, b []byte) ([]api.ID, api.Errno) {
	var ids []api.ID
	var err api.Errno
	switch kind {
	case api.Commit:
		var c object.CommitData
		c, err = slowCommitOf(b)
		ids = append(c.Parents, c.Tree)
	case api.Tree:
		var l []object.Entry
		l, err = slowTree(b)
		for _, e := range l {
			if e.Mode != module {
				ids = append(ids, e.ID)
			}
		}
	case api.Blob:
		if len(b) > api.MaxObject {
			err = api.ErrLong
		}
	case api.Tag:
		var c object.TagData
		c, err = slowTagOf(b)
		ids = []api.ID{c.Object}
	default:
		err = api.ErrArg
	}
	if err != api.OK {
		return nil, err
	}
	slices.SortFunc(ids, func(a, b api.ID) int { return bytes.Compare(a[:], b[:]) })
	return slices.Compact(ids), api.OK
}

// checkDecodes holds all that reads b against the model, and what was read is b again.
func checkDecodes(t *testing.T, b []byte) {
	t.Helper()
	l, err := object.DecodeTree(b)
	if want, wantErr := slowTree(b); err != wantErr || !slices.Equal(l, want) {
		t.Fatalf("DecodeTree(%q): %v, %v, not %v, %v", b, l, err, want, wantErr)
	}
	if again, e := object.EncodeTree(l); err == api.OK && (e != api.OK || !bytes.Equal(again, b)) {
		t.Fatalf("EncodeTree(%v): %q, %v, not %q", l, again, e, b)
	}
	c, err := object.DecodeCommit(b)
	want, wantErr := slowCommitOf(b)
	if err != wantErr || !sameCommit(c, want) {
		t.Fatalf("DecodeCommit(%q): %+v, %v, not %+v, %v", b, c, err, want, wantErr)
	}
	if again, e := object.EncodeCommit(c); err == api.OK && (e != api.OK || !bytes.Equal(again, b)) {
		t.Fatalf("EncodeCommit(%+v): %q, %v, not %q", c, again, e, b)
	}
	if got := object.Parents(api.Commit, b); !slices.Equal(got, want.Parents) {
		t.Fatalf("Parents(%q): %x", b, got)
	}
	for _, s := range []string{string(b), c.Committer} {
		if got := object.Date(object.CommitData{Committer: s}); got != slowDateOf(s) {
			t.Fatalf("Date of %q: %d, not %d", s, got, slowDateOf(s))
		}
	}
	checkDecodesTag(t, b)
	checkKinds(t, b)
}

func checkDecodesTag(t *testing.T, b []byte) {
	t.Helper()
	c, err := object.DecodeTag(b)
	if want, wantErr := slowTagOf(b); err != wantErr || c != want {
		t.Fatalf("DecodeTag(%q): %+v, %v, not %+v, %v", b, c, err, want, wantErr)
	}
	if again, e := object.EncodeTag(c); err == api.OK && (e != api.OK || !bytes.Equal(again, b)) {
		t.Fatalf("EncodeTag(%+v): %q, %v, not %q", c, again, e, b)
	}
}

// checkKinds: b as canonical bytes, and as an object of each kind and of none.
func checkKinds(t *testing.T, b []byte) {
	t.Helper()
	kind, data, err := object.Open(b)
	if k, want, wantErr := slowOpen(b); kind != k || string(data) != want || err != wantErr {
		t.Fatalf("Open(%q): %d, %q, %v, not %d, %q, %v", b, kind, data, err, k, want, wantErr)
	}
	for kind := range 6 {
		want, wantErr := slowEdges(kind, b)
		if got, err := object.Edges(kind, b); err != wantErr || !slices.Equal(got, want) {
			t.Fatalf("Edges(%d, %q): %x, %v, not %x, %v", kind, b, got, err, want, wantErr)
		}
		if err := object.Check(kind, b); err != wantErr {
			t.Fatalf("Check(%d, %q): %v, not %v", kind, b, err, wantErr)
		}
	}
}

// pieces: what objects are made of, and what is nearly that.
func pieces(t testing.TB) []string {
	l := []string{"\n", "\n\n", " ", "\x00", "/", ".", "0", "7", "\xff", "é", "parent " + twoHex + "\n", "tree " + emptyHex + "\n", "author x\n", "committer y 7 z\n", "tagger z\n", "tag n\n", "type blob\n", "40000 a\x00", "100644 b\x00", "160000 c\x00", raw(t, treeHex), strings.Repeat("x", 101), strings.Repeat("y", 201)}
	for _, k := range known(t) {
		l = append(l, k.data)
	}
	return l
}

// torn changes b at some places: a byte, a piece that goes, comes twice or comes in.
func torn(r *rand.Rand, b []byte, pieces []string) []byte {
	b = slices.Clone(b)
	for range 1 + r.Intn(3) {
		from := r.Intn(len(b) + 1)
		to := from + r.Intn(min(len(b)-from, 50)+1)
		switch r.Intn(5) {
		case 0:
			if from < len(b) {
				b[from] ^= 1 << r.Intn(8)
			}
		case 1:
			b = slices.Delete(b, from, to)
		case 2:
			b = slices.Insert(b, from, slices.Clone(b[from:to])...)
		case 3:
			b = slices.Insert(b, from, []byte(pieces[r.Intn(len(pieces))])...)
		case 4:
			b = slices.Replace(b, from, to, []byte(pieces[r.Intn(len(pieces))])...)
		}
	}
	return b
}

func TestModelOfTornObjects(t *testing.T) {
	r := rand.New(rand.NewSource(1))
	all := pieces(t)
	for _, k := range known(t) {
		checkDecodes(t, []byte(k.data))
		for range 1500 {
			b := torn(r, []byte(k.data), all)
			checkDecodes(t, b)
			checkKinds(t, torn(r, object.Canon(k.kind, b), all))
			checkKinds(t, object.Canon(k.kind, b))
		}
	}
}

// someTree: entries of few names, so that many are there twice or out of their order.
func someTree(r *rand.Rand) []object.Entry {
	modes := []int{dir, dir, file, file, runs, link, module, 0}
	names := []string{"a", "a-", "a.b", "a/", "a0", "b", ".", "..", ".git", "", "ab", "a\x00", ".gitx", "~"}
	var l []object.Entry
	for range r.Intn(8) {
		m, n := r.Intn(len(modes)-1), r.Intn(len(names))
		if r.Intn(40) == 0 {
			m = len(modes) - 1
		}
		if slowEntry.FindString("40000 "+names[n]+"\x00"+strings.Repeat("x", 20)) == "" || slowDots.MatchString(names[n]) {
			n = r.Intn(len(names))
		}
		l = append(l, object.Entry{Mode: modes[m], Name: names[n], ID: numbered(r.Intn(4))})
	}
	if r.Intn(4) > 0 {
		slices.SortStableFunc(l, slowOrder)
	}
	return l
}

func TestModelOfTrees(t *testing.T) {
	r := rand.New(rand.NewSource(2))
	told := map[api.Errno]int{}
	for range 20000 {
		l := someTree(r)
		want := api.OK
		for _, e := range l {
			if digits[e.Mode] == "" || e.Name == "" || strings.ContainsAny(e.Name, "/\x00") || slowDots.MatchString(e.Name) {
				want = api.ErrArg
			}
		}
		if want == api.OK && !slowRises(l) {
			want = api.ErrForm
		}
		told[want]++
		b, err := object.EncodeTree(l)
		if err != want || err != api.OK && len(b) != 0 || err == api.OK && !bytes.Equal(b, treeBytes(l)) {
			t.Fatalf("EncodeTree(%v): %q, %v, not %v", l, b, err, want)
		}
		checkDecodes(t, treeBytes(l))
		for _, e := range l {
			if got := object.Order(l[0], e); got != slowOrder(l[0], e) {
				t.Fatalf("Order(%v, %v): %d", l[0], e, got)
			}
		}
	}
	if told[api.OK] < 100 || told[api.ErrArg] < 100 || told[api.ErrForm] < 100 {
		t.Errorf("too few of a kind: %v", told)
	}
}

func FuzzBytes(f *testing.F) {
	for _, k := range known(f) {
		f.Add([]byte(k.data))
		f.Add(object.Canon(k.kind, []byte(k.data)))
	}
	for _, s := range pieces(f) {
		f.Add([]byte(s))
	}
	f.Fuzz(func(t *testing.T, b []byte) { checkDecodes(t, b) })
}

// FuzzTexts: what is encoded says the same again; what is refused is what the patterns refuse.
func FuzzTexts(f *testing.F) {
	f.Add("A <a> 5 +0000", "C <c> 6 +0000", "m\n", 3, []byte("abc"))
	f.Add("", "\n", "\x00", 7, []byte("aa"))
	f.Add("a", "c", "", 4, []byte{})
	f.Fuzz(func(t *testing.T, author, committer, message string, kind int, which []byte) {
		c := object.CommitData{Tree: numbered(kind), Author: author, Committer: committer, Message: message}
		for _, v := range which {
			c.Parents = append(c.Parents, numbered(int(v)))
		}
		text := regexp.MustCompile(`^[^\x00\n]{1,200}$`)
		isText := func(s string) bool { return text.MatchString(letters([]byte(s))) }
		once := map[api.ID]bool{}
		for _, id := range c.Parents {
			once[id] = true
		}
		right := isText(author) && isText(committer) && len(once) == len(c.Parents)
		b, err := object.EncodeCommit(c)
		if right == (err == api.ErrArg) || err == api.OK && len(b) > api.MaxObject {
			t.Fatalf("EncodeCommit(%+v): %v", c, err)
		}
		if got, wrong := slowCommitOf(b); err == api.OK && (wrong != api.OK || !sameCommit(got, c)) {
			t.Fatalf("EncodeCommit(%+v): %q", c, b)
		}
		tag := object.TagData{Object: numbered(kind), Kind: kind, Name: author, Tagger: committer, Message: message}
		b, err = object.EncodeTag(tag)
		if right := kinds[kind] != "" && isText(author) && len(author) <= api.MaxName && isText(committer); right == (err == api.ErrArg) {
			t.Fatalf("EncodeTag(%+v): %v", tag, err)
		}
		if got, wrong := slowTagOf(b); err == api.OK && (wrong != api.OK || got != tag) {
			t.Fatalf("EncodeTag(%+v): %q", tag, b)
		}
	})
}
