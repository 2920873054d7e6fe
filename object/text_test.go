package object_test

import (
	"slices"
	"strings"
	"testing"

	"trove/api"
	"trove/object"
)

func sameCommit(a, b object.CommitData) bool {
	return a.Tree == b.Tree && slices.Equal(a.Parents, b.Parents) && a.Author == b.Author && a.Committer == b.Committer && a.Message == b.Message
}

func checkCommit(t *testing.T, c object.CommitData, want string) {
	t.Helper()
	b, err := object.EncodeCommit(c)
	if err != api.OK || string(b) != want {
		t.Errorf("EncodeCommit(%+v): %q, %v", c, b, err)
	}
	if got, err := object.DecodeCommit([]byte(want)); err != api.OK || !sameCommit(got, c) {
		t.Errorf("DecodeCommit(%q): %+v, %v", want, got, err)
	}
}

func checkCommitRefused(t *testing.T, c object.CommitData, want api.Errno) {
	t.Helper()
	if b, err := object.EncodeCommit(c); err != want || len(b) != 0 {
		t.Errorf("EncodeCommit(%.200q): %q, %v, not %v", c.Author+"|"+c.Committer, b, err, want)
	}
}

func checkCommitBytesRefused(t *testing.T, s string, want api.Errno) {
	t.Helper()
	if got, err := object.DecodeCommit([]byte(s)); err != want || !sameCommit(got, object.CommitData{}) {
		t.Errorf("DecodeCommit(%q): %+v, %v, not %v", s, got, err, want)
	}
}

func checkTag(t *testing.T, c object.TagData, want string) {
	t.Helper()
	b, err := object.EncodeTag(c)
	if err != api.OK || string(b) != want {
		t.Errorf("EncodeTag(%+v): %q, %v", c, b, err)
	}
	if got, err := object.DecodeTag([]byte(want)); err != api.OK || got != c {
		t.Errorf("DecodeTag(%q): %+v, %v", want, got, err)
	}
}

func checkTagRefused(t *testing.T, c object.TagData, want api.Errno) {
	t.Helper()
	if b, err := object.EncodeTag(c); err != want || len(b) != 0 {
		t.Errorf("EncodeTag(%.200q): %q, %v, not %v", c.Name+"|"+c.Tagger, b, err, want)
	}
}

func checkTagBytesRefused(t *testing.T, s string, want api.Errno) {
	t.Helper()
	if got, err := object.DecodeTag([]byte(s)); err != want || got != (object.TagData{}) {
		t.Errorf("DecodeTag(%q): %+v, %v, not %v", s, got, err, want)
	}
}

// texts that may stand in a line, and those that may not.
var (
	rightTexts = []string{"a", " ", "  ", "A <a@x> 5 +0000", "\r", "\x01", "\xff\xfe", "é", "author x", strings.Repeat("x", 200), strings.Repeat("é", 100)}
	wrongTexts = []string{"", "\n", "a\n", "\na", "a\nb", "\x00", "a\x00", "a\x00b", strings.Repeat("x", 201), strings.Repeat("é", 101), strings.Repeat("x", 5000)}
)

var messages = []string{"", "m", "m\n", "\n", "\n\n", "\x00", "author a\n", "parent " + treeHex + "\n", "\xff\xfe", "a\n\nb", strings.Repeat("m", 5000)}

func TestP1203Commits(t *testing.T) {
	tree, one, two := name(t, treeHex), name(t, oneHex), name(t, twoHex)
	treeLine := "tree " + treeHex + "\n"
	for _, m := range messages {
		checkCommit(t, object.CommitData{Tree: tree, Author: "a", Committer: "c", Message: m}, treeLine+"author a\ncommitter c\n\n"+m)
		checkCommit(t, object.CommitData{Tree: tree, Parents: []api.ID{two, one, tree}, Author: "a", Committer: "c", Message: m},
			treeLine+"parent "+twoHex+"\nparent "+oneHex+"\nparent "+treeHex+"\nauthor a\ncommitter c\n\n"+m)
	}
	for _, s := range rightTexts {
		checkCommit(t, object.CommitData{Tree: tree, Author: s, Committer: "c"}, treeLine+"author "+s+"\ncommitter c\n\n")
		checkCommit(t, object.CommitData{Tree: tree, Author: "a", Committer: s}, treeLine+"author a\ncommitter "+s+"\n\n")
	}
	checkCommit(t, object.CommitData{Parents: []api.ID{{}}, Author: "a", Committer: "c"}, strings.Replace("tree 0\nparent 0\nauthor a\ncommitter c\n\n", "0", strings.Repeat("0", 40), 2))
}

func TestP1203TextsOfCommits(t *testing.T) {
	for _, s := range wrongTexts {
		checkCommitRefused(t, object.CommitData{Author: s, Committer: "c"}, api.ErrArg)
		checkCommitRefused(t, object.CommitData{Author: "a", Committer: s}, api.ErrArg)
		checkCommitBytesRefused(t, "tree "+treeHex+"\nauthor "+s+"\ncommitter c\n\n", api.ErrForm)
		if s != "a\n" { // then that is the empty line, and the message begins with another one
			checkCommitBytesRefused(t, "tree "+treeHex+"\nauthor a\ncommitter "+s+"\n\n", api.ErrForm)
		}
	}
}

// lines of a commit, and of a tag.
func commitLines() []string {
	return []string{"tree " + treeHex, "parent " + twoHex, "parent " + oneHex, "author A <a> 5 +0000", "committer C <c> 6 +0000", ""}
}

func tagLines() []string {
	return []string{"object " + joinHex, "type commit", "tag v1", "tagger T <t> 7 +0000", ""}
}

// wrongLines: lines of which one is not there, is there twice, or is another one.
func wrongLines(l []string) []string {
	var out []string
	put := func(l []string) { out = append(out, strings.Join(l, "\n")+"\nm") }
	for k, s := range l {
		if !strings.HasPrefix(s, "parent") {
			put(slices.Delete(slices.Clone(l), k, k+1))
		}
		if s != "" { // a second empty one begins the message
			put(slices.Insert(slices.Clone(l), k, s))
		}
		for _, other := range []string{" " + s, s + "\x00", "\t", "x", strings.ToUpper(s) + "X", strings.Replace(s, " ", "", 1), strings.Replace(s, " ", "\t", 1), strings.Replace(s, " ", "  ", 1)} {
			if strings.Contains(s, "<") && other == strings.Replace(s, " ", "  ", 1) || strings.HasPrefix(s, "tag ") && strings.HasPrefix(other, "tag  ") {
				continue // a text may begin with a blank
			}
			if other == s { // of the empty line
				continue
			}
			put(slices.Replace(slices.Clone(l), k, k+1, other))
		}
		if k > 0 && strings.Fields(s + " x")[0] != strings.Fields(l[k-1] + " x")[0] {
			swapped := slices.Clone(l)
			swapped[k-1], swapped[k] = swapped[k], swapped[k-1]
			put(swapped)
		}
	}
	return out
}

func TestP1203WrongLinesOfCommits(t *testing.T) {
	right := strings.Join(commitLines(), "\n") + "\nm"
	if _, err := object.DecodeCommit([]byte(right)); err != api.OK {
		t.Fatalf("%q: %v", right, err)
	}
	for _, s := range wrongLines(commitLines()) {
		checkCommitBytesRefused(t, s, api.ErrForm)
	}
	for n := range len(right) - 1 { // all that ends ahead of the message
		checkCommitBytesRefused(t, right[:n], api.ErrForm)
	}
	for n := 1; n < len(right); n++ {
		checkCommitBytesRefused(t, right[n:], api.ErrForm)
	}
	for _, change := range [][2]string{
		{treeHex, strings.ToUpper(treeHex)}, {treeHex, treeHex[1:]}, {treeHex, treeHex + "0"}, {treeHex, treeHex + " "}, {treeHex, "g" + treeHex[1:]}, {treeHex, ""},
		{twoHex, strings.ToUpper(twoHex)}, {oneHex, oneHex[1:]}, {oneHex, oneHex + "\r"}, {oneHex, ""}, {oneHex, twoHex}, {"\n", "\r\n"}, {"tree", "object"},
		{"parent " + oneHex, "encoding x"}, {"\n\n", "\nencoding x\n\n"}, {"\n\n", "\ngpgsig x\n\n"}, {"parent", "parents"}, {"author", "Author"}, {"committer", "commiter"}, {"committer", "author"},
	} {
		s := strings.Replace(right, change[0], change[1], 1)
		if s == right {
			t.Fatalf("%q changes nothing", change)
		}
		checkCommitBytesRefused(t, s, api.ErrForm)
	}
}

func TestP1203ParentsTwice(t *testing.T) {
	a, b, c := numbered(1), numbered(2), numbered(3)
	for _, l := range [][]api.ID{{a, a}, {a, b, a}, {a, b, b}, {c, a, b, c}, {{}, {}}} {
		checkCommitRefused(t, object.CommitData{Tree: a, Parents: l, Author: "a", Committer: "c"}, api.ErrArg)
	}
	one, two := "parent "+oneHex+"\n", "parent "+twoHex+"\n"
	for _, s := range []string{one + one, one + two + one, two + one + one} {
		checkCommitBytesRefused(t, "tree "+treeHex+"\n"+s+"author a\ncommitter c\n\n", api.ErrForm)
	}
}

// parents: n names, in no order.
func parents(n int) []api.ID {
	var l []api.ID
	for k := range n {
		l = append(l, numbered(k))
	}
	return l
}

func TestP1203HowManyParents(t *testing.T) {
	head := len("tree \nauthor a\ncommitter c\n\n") + 40
	most := (api.MaxObject - head) / len("parent \n"+treeHex)
	for n := range most + 1 {
		c := object.CommitData{Parents: parents(n), Author: "a", Committer: "c"}
		b, err := object.EncodeCommit(c)
		if err != api.OK {
			t.Fatalf("EncodeCommit of %d parents: %v", n, err)
		}
		if got, err := object.DecodeCommit(b); err != api.OK || !sameCommit(got, c) {
			t.Fatalf("DecodeCommit of %d parents: %v", n, err)
		}
	}
	for _, n := range []int{most + 1, api.MaxItems - 1, api.MaxItems} { // they are not too many, but too long
		checkCommitRefused(t, object.CommitData{Parents: parents(n), Author: "a", Committer: "c"}, api.ErrLong)
	}
	for _, n := range []int{api.MaxItems + 1, 2000} {
		checkCommitRefused(t, object.CommitData{Parents: parents(n), Author: "a", Committer: "c"}, api.ErrArg)
	}
}

func TestP1203HowLongCommitsAre(t *testing.T) {
	head := "tree " + treeHex + "\nauthor a\ncommitter c\n\n"
	room := strings.Repeat("m", api.MaxObject-len(head))
	c := object.CommitData{Tree: name(t, treeHex), Author: "a", Committer: "c", Message: room}
	checkCommit(t, c, head+room)
	c.Message += "m"
	checkCommitRefused(t, c, api.ErrLong)
	checkCommitBytesRefused(t, head+c.Message, api.ErrLong)
	c.Author = ""
	checkCommitRefused(t, c, api.ErrArg)
	checkCommitBytesRefused(t, room+head+"x", api.ErrLong)
	checkCommitBytesRefused(t, room+head, api.ErrForm)
}

func TestP1203Tags(t *testing.T) {
	join := name(t, joinHex)
	front := "object " + joinHex + "\n"
	for kind, word := range kinds {
		for _, m := range messages {
			checkTag(t, object.TagData{Object: join, Kind: kind, Name: "v", Tagger: "t", Message: m}, front+"type "+word+"\ntag v\ntagger t\n\n"+m)
		}
	}
	for _, s := range rightTexts {
		checkTag(t, object.TagData{Object: join, Kind: api.Blob, Name: "v", Tagger: s}, front+"type blob\ntag v\ntagger "+s+"\n\n")
		if len(s) <= api.MaxName {
			checkTag(t, object.TagData{Object: join, Kind: api.Blob, Name: s, Tagger: "t"}, front+"type blob\ntag "+s+"\ntagger t\n\n")
		}
	}
	for _, s := range []string{"a/b", ".", "..", ".git", strings.Repeat("x", api.MaxName)} { // no name of an entry, but one of a tag
		checkTag(t, object.TagData{Object: join, Kind: api.Tag, Name: s, Tagger: "t"}, front+"type tag\ntag "+s+"\ntagger t\n\n")
	}
}

func TestP1203WrongTags(t *testing.T) {
	front := "object " + joinHex + "\n"
	for _, kind := range noKinds {
		checkTagRefused(t, object.TagData{Kind: kind, Name: "v", Tagger: "t"}, api.ErrArg)
	}
	for _, s := range wrongTexts {
		checkTagRefused(t, object.TagData{Kind: api.Blob, Name: s, Tagger: "t"}, api.ErrArg)
		checkTagRefused(t, object.TagData{Kind: api.Blob, Name: "v", Tagger: s}, api.ErrArg)
		checkTagBytesRefused(t, front+"type blob\ntag "+s+"\ntagger t\n\n", api.ErrForm)
		if s != "a\n" {
			checkTagBytesRefused(t, front+"type blob\ntag v\ntagger "+s+"\n\n", api.ErrForm)
		}
	}
	tooLong := strings.Repeat("x", api.MaxName+1)
	checkTagRefused(t, object.TagData{Kind: api.Blob, Name: tooLong, Tagger: "t"}, api.ErrArg)
	checkTagBytesRefused(t, front+"type blob\ntag "+tooLong+"\ntagger t\n\n", api.ErrForm)
}

func TestP1203WrongLinesOfTags(t *testing.T) {
	right := strings.Join(tagLines(), "\n") + "\nm"
	if _, err := object.DecodeTag([]byte(right)); err != api.OK {
		t.Fatalf("%q: %v", right, err)
	}
	for _, s := range wrongLines(tagLines()) {
		checkTagBytesRefused(t, s, api.ErrForm)
	}
	for n := range len(right) - 1 {
		checkTagBytesRefused(t, right[:n], api.ErrForm)
	}
	for n := 1; n < len(right); n++ {
		checkTagBytesRefused(t, right[n:], api.ErrForm)
	}
	for _, change := range [][2]string{
		{joinHex, strings.ToUpper(joinHex)}, {joinHex, joinHex[1:]}, {joinHex, joinHex + "0"}, {joinHex, ""}, {"\n", "\r\n"}, {"object", "tree"},
		{"type commit", "type"}, {"type commit", "type "}, {"type commit", "type 1"}, {"type commit", "type Commit"}, {"type commit", "type commit "}, {"type commit", "type blub"},
		{"tag v1", "tag"}, {"tag v1", "name v1"}, {"\ntagger T <t> 7 +0000", ""}, {"tagger", "author"},
	} {
		s := strings.Replace(right, change[0], change[1], 1)
		if s == right {
			t.Fatalf("%q changes nothing", change)
		}
		checkTagBytesRefused(t, s, api.ErrForm)
	}
}

func TestP1203HowLongTagsAre(t *testing.T) {
	head := "object " + joinHex + "\ntype tree\ntag v\ntagger t\n\n"
	room := strings.Repeat("m", api.MaxObject-len(head))
	c := object.TagData{Object: name(t, joinHex), Kind: api.Tree, Name: "v", Tagger: "t", Message: room}
	checkTag(t, c, head+room)
	c.Message += "m"
	checkTagRefused(t, c, api.ErrLong)
	checkTagBytesRefused(t, head+c.Message, api.ErrLong)
	c.Kind = 0
	checkTagRefused(t, c, api.ErrArg)
	checkTagBytesRefused(t, room+head+"x", api.ErrLong)
	checkTagBytesRefused(t, room+head, api.ErrForm)
}

func TestP1203EncodeLeavesParentsAsTheyAre(t *testing.T) {
	l := []api.ID{numbered(2), numbered(1), numbered(3), numbered(0)}
	was := slices.Clone(l)
	object.EncodeCommit(object.CommitData{Parents: l[:3], Author: "a", Committer: "c"})
	if !slices.Equal(l, was) {
		t.Errorf("EncodeCommit changed what it was handed: %v", l)
	}
}

func TestP1203Date(t *testing.T) {
	for s, want := range map[string]int{
		"": 0, " ": 0, "1": 0, "1 ": 0, " 1": 0, "1 x": 1, "1 2": 1, "1 2 3": 2, "a 7 b c": 0, "7 a b": 0,
		"C O Mitter <c@x> 1112912053 +0200": 1112912053, "C  17 +0000": 17,
		"17  +0000": 17, "17 +0000 ": 17, "  17   +0000  ": 17, "17 x ": 17,
		"0 x": 0, "00 x": 0, "0000000005 x": 5, "00000000005 x": 0, "9 x": 9,
		"9999999999 x": 9999999999, "4294967296 x": 4294967296, "2147483648 x": 2147483648, "10000000000 x": 0, "12345678901 x": 0, "99999999999999999999 x": 0,
		"1x x": 0, "x1 x": 0, "-1 x": 0, "+1 x": 0, "1.0 x": 0, "1_0 x": 0, "0x1 x": 0, "1e3 x": 0, "１ x": 0, "1\x00 x": 0, "1\n x": 0, "<1> x": 0,
		"1\tx": 0, "1\nx": 0, "1\u00a0x": 0, "5\t6 x": 0, "5 6\tx": 5, "5 \t": 5, "\xff 8 \xff": 8,
	} {
		if got := object.Date(object.CommitData{Author: "1 x", Committer: s, Message: "2 x"}); got != want {
			t.Errorf("Date of %q: %d, not %d", s, got, want)
		}
	}
}
