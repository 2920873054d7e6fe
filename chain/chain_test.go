package chain_test

import (
	"bytes"
	"math"
	"slices"
	"strconv"
	"strings"
	"testing"

	"trove/api"
	"trove/chain"
	"trove/delta"
	"trove/entry"
	"trove/object"
)

// TestP1601Whole: objects that are no deltas.
func TestP1601Whole(t *testing.T) {
	tree, _ := object.EncodeTree([]object.Entry{{Mode: 0o100644, Name: "a", ID: id("one")}})
	commit, _ := object.EncodeCommit(object.CommitData{Author: "A", Committer: "C", Message: "m"})
	tag, _ := object.EncodeTag(object.TagData{Kind: api.Blob, Name: "n", Tagger: "T"})
	l := []entry.Entry{blob("one"), {Kind: api.Tree, Data: tree}, {Kind: api.Commit, Data: commit}, {Kind: api.Tag, Data: tag}, blob(""), {Kind: api.Tree}}
	got, bases, err := checkDenote(t, packed(t, l...), none)
	if err != api.OK || len(got) != len(l) || len(bases) != 0 {
		t.Fatalf("%+v, %x, %v", got, bases, err)
	}
	for i, e := range l {
		if !sameObject(got[i], whole(e.Kind, string(e.Data))) {
			t.Errorf("%d: %+v", i, got[i])
		}
	}
	for _, have := range []haver{nil, none, blobs("one")} {
		told(t, "none at all", nil, have, nil, nil)
		if got, bases, err := chain.Resolve(nil, have); len(got) != 0 || len(bases) != 0 || err != api.OK {
			t.Errorf("of nothing: %+v, %x, %v", got, bases, err)
		}
	}
}

// TestP1601Kinds: a delta is of its base's kind, by place, by name and from outside.
func TestP1601Kinds(t *testing.T) {
	for _, kind := range []int{api.Commit, api.Tree, api.Blob, api.Tag} {
		var l []chain.Object
		for _, s := range []string{"1", "2", "3", "4"} {
			l = append(l, whole(kind, kindBytes(kind, s)))
		}
		d := func(i, k int) []byte { return delta.Make(l[i].Data, l[k].Data, 1) }
		entries := []entry.Entry{
			{Kind: entry.Ref, Base: l[3].ID, Data: d(3, 0)},
			{Kind: entry.Ofs, Back: 1, Data: d(0, 1)},
			{Kind: entry.Ref, Base: l[1].ID, Data: d(1, 2)},
		}
		got, bases, err := checkDenote(t, packed(t, entries...), holding(l[3]))
		if err != api.OK || len(got) != 3 || !slices.Equal(bases, []api.ID{l[3].ID}) {
			t.Fatalf("kind %d: %+v, %x, %v", kind, got, bases, err)
		}
		for i, o := range got {
			want := l[i]
			want.Deep = i + 1
			if !sameObject(o, want) {
				t.Errorf("kind %d: %+v, not %+v", kind, o, want)
			}
		}
	}
}

// kindBytes: an object's bytes that hang on s.
func kindBytes(kind int, s string) string {
	var b []byte
	switch kind {
	case api.Commit:
		b, _ = object.EncodeCommit(object.CommitData{Author: "A", Committer: "C", Message: s})
	case api.Tree:
		b, _ = object.EncodeTree([]object.Entry{{Mode: 0o100644, Name: "a" + s}})
	case api.Blob:
		b = []byte(s)
	case api.Tag:
		b, _ = object.EncodeTag(object.TagData{Kind: api.Blob, Name: "n", Tagger: "T", Message: s})
	}
	return string(b)
}

// TestP1601Places: a base by place is just the entry that begins there, not one beside it.
func TestP1601Places(t *testing.T) {
	texts := []string{"one", "two", "six", "ten"}
	for back := 1; back <= 4; back++ {
		d, _ := delta.Print(3, 4, []delta.Op{{Copy: true, N: 3}, {Data: []byte("!")}}) // on any of them
		l := []entry.Entry{blob("one"), blob("two"), blob("six"), blob("ten"), {Kind: entry.Ofs, Back: back, Data: d}}
		want := append(slices.Clone(texts), texts[4-back]+"!")
		told(t, "back "+strconv.Itoa(back), l, none, want, []int{0, 0, 0, 0, 1})
	}
	told(t, "several on one", []entry.Entry{blob("a"), ofs(1, "a", "b"), ofs(2, "a", "c"), ofs(1, "c", "d"), ofs(3, "b", "e"), ofs(5, "a", "f")}, nil,
		[]string{"a", "b", "c", "d", "e", "f"}, []int{0, 1, 1, 2, 2, 1})
}

// TestP1601Names: a base by name may stand anywhere, and be whatever makes it.
func TestP1601Names(t *testing.T) {
	told(t, "behind", []entry.Entry{ref("a", "b"), blob("a")}, nil, []string{"b", "a"}, []int{1, 0})
	told(t, "ahead", []entry.Entry{blob("a"), ref("a", "b")}, nil, []string{"a", "b"}, []int{0, 1})
	told(t, "a row from the end", []entry.Entry{ref("d", "e"), ref("c", "d"), ref("b", "c"), ref("a", "b"), blob("a")}, nil,
		[]string{"e", "d", "c", "b", "a"}, []int{4, 3, 2, 1, 0})
	told(t, "what a delta by place makes", []entry.Entry{ref("b", "c"), blob("a"), ofs(1, "a", "b"), ref("b", "d")}, nil,
		[]string{"c", "a", "b", "d"}, []int{2, 0, 1, 2})
	told(t, "by place on one by name", []entry.Entry{ref("a", "b"), ofs(1, "b", "c"), ofs(2, "b", "d"), blob("a")}, nil,
		[]string{"b", "c", "d", "a"}, []int{1, 2, 2, 0})
	told(t, "to and fro", []entry.Entry{ref("c", "d"), blob("a"), ref("b", "c"), ofs(2, "a", "b"), ofs(4, "d", "e"), ref("e", "")}, nil,
		[]string{"d", "a", "c", "b", "e", ""}, []int{3, 0, 2, 1, 4, 5})
	told(t, "the empty one", []entry.Entry{ref("", "x"), blob("")}, nil, []string{"x", ""}, []int{1, 0})
	wrong(t, "of another kind", none, api.ErrNone, ref("", "x"), entry.Entry{Kind: api.Tree})
}

// TestP1601Outside: what have has is asked for where the pack's own does not do, entry by entry.
func TestP1601Outside(t *testing.T) {
	l := []entry.Entry{ref("a", "b")}
	told(t, "one", l, blobs("a"), []string{"b"}, []int{1}, "a")
	wrong(t, "no have", nil, api.ErrNone, l...)
	wrong(t, "it has none", none, api.ErrNone, l...)
	wrong(t, "it has another", blobs("x", "b"), api.ErrNone, l...)
	told(t, "the pack's own first", []entry.Entry{ref("a", "b"), blob("a")}, blobs("a"), []string{"b", "a"}, []int{1, 0})
	told(t, "not asked for", []entry.Entry{blob("a"), ofs(1, "a", "b")}, blobs("a", "b"), []string{"a", "b"}, []int{0, 1})
	told(t, "two on one: once", []entry.Entry{ref("a", "b"), ref("a", "c")}, blobs("a"), []string{"b", "c"}, []int{1, 1}, "a")
	told(t, "several, rising", []entry.Entry{ref("3", "c"), ref("1", "a"), ref("4", "d"), ref("2", "b"), ref("4", "e")}, blobs("1", "2", "3", "4", "5"),
		[]string{"c", "a", "d", "b", "e"}, []int{1, 1, 1, 1, 1}, "1", "2", "3", "4")
	told(t, "and so on", []entry.Entry{ref("b", "c"), ofs(1, "c", "d"), ref("a", "b"), ref("d", "e")}, blobs("a"),
		[]string{"c", "d", "b", "e"}, []int{2, 3, 1, 4}, "a")
}

// TestP1601OutsideInTurn: the first that waits is told by what have has, even if the pack's own would do later; what is told by then is not.
func TestP1601OutsideInTurn(t *testing.T) {
	both := blobs("a", "b")
	told(t, "b is told by then", []entry.Entry{ref("a", "b"), ref("b", "c")}, both, []string{"b", "c"}, []int{1, 2}, "a")
	told(t, "b is told later", []entry.Entry{ref("b", "c"), ref("a", "b")}, both, []string{"c", "b"}, []int{1, 1}, "a", "b")
	told(t, "b is told later, by place", []entry.Entry{ref("b", "c"), ref("a", "x"), ofs(1, "x", "b")}, both, []string{"c", "x", "b"}, []int{1, 1, 2}, "a", "b")
	told(t, "b is told by then, by place", []entry.Entry{ref("a", "x"), ofs(1, "x", "b"), ref("b", "c")}, both, []string{"x", "b", "c"}, []int{1, 2, 3}, "a")
	// One entry at a time: the second on b is told by the pack's own, since a stands between.
	told(t, "two on b", []entry.Entry{ref("b", "c"), ref("a", "b"), ref("b", "d")}, both, []string{"c", "b", "d"}, []int{1, 1, 2}, "a", "b")
	told(t, "two on a, c by the first's", []entry.Entry{ref("a", "x"), ref("b", "c"), ref("a", "b")}, both, []string{"x", "c", "b"}, []int{1, 1, 1}, "a", "b")
	told(t, "have has what the pack has", []entry.Entry{blob("b"), ref("b", "c"), ref("a", "d")}, both, []string{"b", "c", "d"}, []int{0, 1, 1}, "a")
}

// row: a blob and so many deltas of a kind, one on the other.
func row(n, kind int) ([]entry.Entry, []string, []int) {
	l, texts, deep := []entry.Entry{blob("0")}, []string{"0"}, []int{0}
	for i := 1; i <= n; i++ {
		from, to := strconv.Itoa(i-1), strconv.Itoa(i)
		e := ofs(1, from, to)
		if kind == entry.Ref {
			e = ref(from, to)
		}
		l, texts, deep = append(l, e), append(texts, to), append(deep, i)
	}
	return l, texts, deep
}

func TestP1601Deep(t *testing.T) {
	for _, kind := range []int{entry.Ofs, entry.Ref} {
		l, texts, deep := row(api.MaxChain, kind)
		told(t, "as deep as may be", l, none, texts, deep)
		l, _, _ = row(api.MaxChain+1, kind)
		wrong(t, "one more", none, api.ErrLong, l...)
		l, _, _ = row(3*api.MaxChain, kind)
		wrong(t, "far more", none, api.ErrLong, l...)
	}
	// By name and from the end: the last of the row is the first entry.
	l, texts, deep := row(api.MaxChain, entry.Ref)
	slices.Reverse(l)
	slices.Reverse(texts)
	slices.Reverse(deep)
	told(t, "from the end", l, none, texts, deep)
	l, _, _ = row(api.MaxChain+1, entry.Ref)
	slices.Reverse(l)
	wrong(t, "from the end, one more", none, api.ErrLong, l...)
	l, _, _ = row(api.MaxChain+2, entry.Ref)
	slices.Reverse(l)
	wrong(t, "from the end, two more: the first one's base is not told", none, api.ErrNone, l...)
}

func TestP1601DeepOutside(t *testing.T) {
	l, texts, deep := row(api.MaxChain, entry.Ref)
	told(t, "on one from outside", l[1:], blobs("0"), texts[1:], deep[1:], "0")
	l, _, _ = row(api.MaxChain+1, entry.Ref)
	wrong(t, "on one from outside, one more", blobs("0"), api.ErrLong, l[1:]...)
	wrong(t, "the pack's own is too deep: have's is not asked for", blobs(strconv.Itoa(api.MaxChain)), api.ErrLong, l...)
	last := strconv.Itoa(api.MaxChain + 1)
	l = append(l, ref(last, "behind"))
	wrong(t, "an error is told first, whatever have has", blobs(last), api.ErrLong, l...)
	slices.Reverse(l)
	wrong(t, "likewise from the end", blobs(last), api.ErrLong, l...)
	wrong(t, "from the end, and have has it not", none, api.ErrNone, l...)
}

type wrongDelta struct {
	d   []byte
	err api.Errno
}

// wrongDeltas: of the base "base", with what delta.Apply answers of them.
func wrongDeltas() map[string]wrongDelta {
	return map[string]wrongDelta{
		"nothing":             {nil, api.ErrShort},
		"one size":            {[]byte{4}, api.ErrShort},
		"a size that goes on": {[]byte{4, 0x84}, api.ErrShort},
		"no size ends":        {bytes.Repeat([]byte{0xFF}, 9), api.ErrLong},
		"a put that is cut":   {[]byte{4, 3, 3, 'x', 'y'}, api.ErrShort},
		"a step 0":            {[]byte{4, 3, 0}, api.ErrForm},
		"a greater base":      {[]byte{5, 1, 0x90, 1}, api.ErrForm},
		"a less base":         {[]byte{3, 1, 0x90, 1}, api.ErrForm},
		"a copy beyond":       {[]byte{4, 5, 0x90, 5}, api.ErrForm},
		"more than it says":   {[]byte{4, 3, 0x90, 4}, api.ErrForm},
		"fewer than it says":  {[]byte{4, 5, 0x90, 4}, api.ErrForm},
		"too long a result":   {[]byte{4, 0x81, 0x80, 1}, api.ErrLong},
	}
}

func TestP1601Apply(t *testing.T) {
	for what, x := range wrongDeltas() {
		wrong(t, what+", by place", none, x.err, blob("base"), entry.Entry{Kind: entry.Ofs, Back: 1, Data: x.d})
		wrong(t, what+", by name", none, x.err, blob("base"), refTo("base", x.d))
		wrong(t, what+", by name, ahead", none, x.err, refTo("base", x.d), blob("base"))
		wrong(t, what+", from outside", blobs("base"), x.err, refTo("base", x.d))
		wrong(t, what+", though have has the base too", blobs("base"), x.err, refTo("base", x.d), blob("base"))
		wrong(t, what+", on a delta", none, x.err, blob("x"), ofs(1, "x", "base"), entry.Entry{Kind: entry.Ofs, Back: 1, Data: x.d})
		wrong(t, what+", and one on it", none, x.err, blob("base"), entry.Entry{Kind: entry.Ofs, Back: 1, Data: x.d}, ofs(1, "x", "y"))
		wrong(t, what+", the base is not there", none, api.ErrNone, refTo("base", x.d))
	}
}

// TestP1601Long: an object of as many bytes as may be, and of one more, of a delta that is far shorter.
func TestP1601Long(t *testing.T) {
	base := strings.Repeat("0123456789abcdef", api.MaxObject/16)
	d, err := delta.Print(len(base), api.MaxObject, []delta.Op{{Copy: true, From: 1, N: api.MaxObject - 1}, {Data: []byte("!")}})
	if err != api.OK {
		t.Fatal(err)
	}
	told(t, "the bound", []entry.Entry{blob(base), {Kind: entry.Ofs, Back: 1, Data: d}}, none, []string{base, base[1:] + "!"}, []int{0, 1})
	d, _ = delta.Print(len(base), api.MaxObject+1, []delta.Op{{Copy: true, N: api.MaxObject}, {Data: []byte("!")}})
	wrong(t, "one more", none, api.ErrLong, blob(base), entry.Entry{Kind: entry.Ofs, Back: 1, Data: d})
	wrong(t, "one more, from outside", blobs(base), api.ErrLong, refTo(base, d))
}

// TestP1601FirstError: of several entries with errors the first one in order tells it, whichever was found first.
func TestP1601FirstError(t *testing.T) {
	lost, short, form := ref("nowhere", "x"), refTo("base", []byte{4}), refTo("base", []byte{4, 3, 0})
	wrong(t, "none, short", none, api.ErrNone, blob("base"), lost, short)
	wrong(t, "short, none", none, api.ErrShort, blob("base"), short, lost)
	wrong(t, "short, form", none, api.ErrShort, short, form, blob("base"))
	wrong(t, "form, short", none, api.ErrForm, form, short, blob("base"))
	wrong(t, "form, short, from outside", blobs("base"), api.ErrForm, form, short)
	wrong(t, "short from outside, then form by the pack's own", blobs("out"), api.ErrShort, refTo("out", []byte{4}), form, blob("base"))
	deep, _, _ := row(api.MaxChain+1, entry.Ofs)
	wrong(t, "long, none", none, api.ErrLong, append(slices.Clone(deep), lost)...)
	wrong(t, "none, long", none, api.ErrNone, slices.Concat([]entry.Entry{lost}, deep)...)
	wrong(t, "form, long", none, api.ErrForm, slices.Concat([]entry.Entry{form, blob("base")}, deep)...)
	wrong(t, "long, form", none, api.ErrLong, append(slices.Clone(deep), form, blob("base"))...)
	// One entry with two: too deep goes ahead of steps that are wrong.
	deep[len(deep)-1].Data = []byte{0}
	wrong(t, "too deep, and wrong", none, api.ErrLong, deep...)
	// What has its base in a wrong one waits in vain: by name it may stand ahead of it.
	wrong(t, "ahead of its wrong base", none, api.ErrNone, ref("made", "x"), blob("base"), short)
	wrong(t, "behind its wrong base", none, api.ErrShort, blob("base"), short, ref("made", "x"))
	// What is told by place has no name of its own to ask have for.
	zero := func(x api.ID) (int, []byte, bool) { return api.Blob, []byte("x"), x == api.ID{} }
	wrong(t, "by place behind its wrong base", zero, api.ErrNone, ref("made", "z"), blob("base"), short, ofs(1, "x", "made"))
	wrong(t, "by place behind its lost base", none, api.ErrNone, blob("base"), lost, ofs(1, "x", "y"), short)
}

// TestP1601Errors: errors of entries go ahead of those of what they are.
func TestP1601Errors(t *testing.T) {
	commit := entry.Entry{Kind: api.Commit, Data: []byte("x")}
	wrong(t, "two alike", none, api.ErrForm, blob("a"), blob("a"))
	wrong(t, "two alike, far apart", none, api.ErrForm, blob("a"), blob("b"), blob("c"), blob("a"))
	wrong(t, "a delta that makes its base", none, api.ErrForm, blob("a"), ofs(1, "a", "a"))
	wrong(t, "two deltas that make one", none, api.ErrForm, blob("a"), ofs(1, "a", "b"), ref("a", "b"))
	wrong(t, "one from outside that the pack has", blobs("a"), api.ErrForm, blob("b"), ref("a", "b"))
	wrong(t, "no commit", none, api.ErrForm, commit)
	wrong(t, "no tree", none, api.ErrForm, entry.Entry{Kind: api.Tree, Data: []byte("x")})
	wrong(t, "no tag", none, api.ErrForm, entry.Entry{Kind: api.Tag})
	wrong(t, "no commit, behind", none, api.ErrForm, blob("a"), commit)
	wrong(t, "a delta makes no tree", none, api.ErrForm, entry.Entry{Kind: api.Tree}, entry.Entry{Kind: entry.Ofs, Back: 1, Data: by("", "x")})
	wrong(t, "a tree from outside that is none", holding(whole(api.Tree, "x")), api.ErrForm, entry.Entry{Kind: entry.Ref, Base: whole(api.Tree, "x").ID, Data: by("x", "y")})
	got, _, err := checkDenote(t, packed(t, blob(""), entry.Entry{Kind: api.Tree}), none)
	if len(got) != 2 || err != api.OK {
		t.Errorf("the same bytes of two kinds: %+v, %v", got, err)
	}
	lost := ref("nowhere", "x")
	wrong(t, "two alike, and one lost", none, api.ErrNone, blob("a"), blob("a"), lost)
	wrong(t, "no commit, and one lost", none, api.ErrNone, commit, lost)
	wrong(t, "two alike, and one short", none, api.ErrShort, blob("a"), blob("a"), refTo("a", []byte{1}))
	deep, _, _ := row(api.MaxChain+1, entry.Ofs)
	wrong(t, "two alike, and one too deep", none, api.ErrLong, slices.Concat([]entry.Entry{blob("a"), blob("a"), commit}, deep)...)
}

// TestP1601KindsOfHave: what have has may be of no kind.
func TestP1601KindsOfHave(t *testing.T) {
	for _, kind := range []int{0, 5, 6, 7, 8, -1, math.MaxInt, math.MinInt} {
		have := func(api.ID) (int, []byte, bool) { return kind, []byte("a"), true }
		wrong(t, "kind "+strconv.Itoa(kind), have, api.ErrForm, ref("a", "b"))
	}
	// What it answers beside a false is nothing.
	have := func(api.ID) (int, []byte, bool) { return api.Blob, []byte("a"), false }
	wrong(t, "a false", have, api.ErrNone, ref("a", "b"))
}

// TestP1601Asked: have is asked for no name that the pack has, or that nobody waits for.
func TestP1601Asked(t *testing.T) {
	asked := map[api.ID]int{}
	have := func(x api.ID) (int, []byte, bool) {
		asked[x]++
		return blobs("a", "b", "c")(x)
	}
	b := packed(t, ref("a", "b"), blob("c"), ref("c", "d"), ref("b", "e"), ofs(1, "e", "f"), ref("lost", "g"))
	if _, _, err := chain.Denote(b, have); err != api.ErrNone {
		t.Fatal(err)
	}
	if len(asked) != 2 || asked[id("a")] == 0 || asked[id("lost")] == 0 {
		t.Errorf("asked for %v", asked)
	}
}

// TestP1601Many: as many entries as may be, in rows by name from the end.
func TestP1601Many(t *testing.T) {
	var l []entry.Entry
	var texts []string
	var deep []int
	for i := range api.MaxCount {
		s := strconv.Itoa(i)
		texts, deep = append(texts, s), append(deep, i%(api.MaxChain+1))
		if deep[i] == 0 {
			l = append(l, blob(s))
		} else {
			l = append(l, ref(texts[i-1], s))
		}
	}
	told(t, "rows", l, none, texts, deep)
	slices.Reverse(l)
	slices.Reverse(texts)
	slices.Reverse(deep)
	told(t, "rows from the end", l, none, texts, deep)
	all := slices.Repeat([]entry.Entry{ref("out", "in")}, api.MaxCount)
	wrong(t, "all alike, from outside", blobs("out"), api.ErrForm, all...)
}

// TestP1601Wide: a great many entries that are no pack's, all alike: it still comes to an end soon.
func TestP1601Wide(t *testing.T) {
	const n = 60000
	l := slices.Repeat([]entry.Entry{blob("a"), {Kind: entry.Ofs, Back: 5, Data: by("a", "a")}, ref("a", "a")}, n)
	for i := range l {
		l[i].At = 5 * (i % 2)
	}
	if got, bases, err := chain.Resolve(l, none); len(got) != 0 || len(bases) != 0 || err == api.OK {
		t.Errorf("%d, %d, %v", len(got), len(bases), err)
	}
}

// TestP1Entries: entries that pack.Read never tells: an end, no panic, and nothing beside an error.
func TestP1Entries(t *testing.T) {
	ints := []int{math.MinInt, -20, -1, 0, 1, 2, 3, 5, 8, 12, 20, math.MaxInt}
	for _, kind := range []int{math.MinInt, -1, 0, 1, 2, 3, 4, 5, 6, 7, 8, math.MaxInt} {
		for _, at := range ints {
			for _, back := range ints {
				e := entry.Entry{Kind: kind, At: at, Back: back, Size: back, Len: at, Base: id("a"), Data: by("a", "b")}
				for _, l := range [][]entry.Entry{{e}, {blob("a"), e}, {e, blob("a")}, {e, e}, {e, {Kind: entry.Ofs, At: at, Back: -back, Data: by("b", "c")}}} {
					for _, have := range []haver{none, blobs("a")} {
						got, bases, err := checkResolve(t, l, have)
						if err != api.OK && (len(got) != 0 || len(bases) != 0) || err == api.OK && len(got) != len(l) {
							t.Fatalf("%+v: %+v, %v", l, got, err)
						}
					}
				}
			}
		}
	}
	for _, kind := range []int{math.MinInt, -1, 0, 5, 8, math.MaxInt} {
		if got, _, err := chain.Resolve([]entry.Entry{{Kind: kind}}, nil); len(got) != 0 || err != api.ErrForm {
			t.Errorf("kind %d: %+v, %v", kind, got, err)
		}
	}
	long := blob(string(make([]byte, api.MaxObject+1)))
	if got, _, err := chain.Resolve([]entry.Entry{long}, nil); len(got) != 0 || err != api.ErrForm {
		t.Errorf("too long: %d, %v", len(got), err)
	}
	// A place that is not ahead is no base's, even where an entry begins there.
	for _, l := range [][]entry.Entry{
		{{Kind: entry.Ofs, Back: 0, Data: by("a", "b")}, {Kind: api.Blob, Data: []byte("a")}},
		{{Kind: entry.Ofs, Back: -5, Data: by("a", "b")}, {Kind: api.Blob, At: 5, Data: []byte("a")}},
	} {
		if got, _, err := chain.Resolve(l, nil); len(got) != 0 || err != api.ErrNone {
			t.Errorf("%+v: %+v, %v", l, got, err)
		}
	}
}

// TestP2Resolve: neither what is handed in, nor its spare room, nor what have answers is changed or kept; and an answer is nobody else's.
func TestP2Resolve(t *testing.T) {
	l := read(t, blob("some bytes"), ofs(1, "some bytes", "some more bytes"), ref("outside", "out and in"), ref("some bytes", "bytes"), ref("outside", "outsides"))
	room := make([]entry.Entry, 0, len(l)+1)
	for _, e := range l {
		e.Data = append(make([]byte, 0, len(e.Data)+9), e.Data...)
		copy(e.Data[len(e.Data):len(e.Data)+9], "spare ...")
		room = append(room, e)
	}
	room = append(room, blob("spare"))
	kept := append(make([]byte, 0, 20), "outsidespare room"...)[:7]
	have := func(x api.ID) (int, []byte, bool) { return api.Blob, kept, x == id("outside") }
	got, bases, err := chain.Resolve(room[:len(l)], have)
	again, basesAgain, _ := chain.Resolve(room[:len(l)], have)
	want, wantBases, _ := slowResolve(l, blobs("outside"))
	if err != api.OK || !sameObjects(got, want) || !sameObjects(again, want) || !slices.Equal(bases, wantBases) || !slices.Equal(basesAgain, wantBases) {
		t.Fatalf("%+v, %x, %v", got, bases, err)
	}
	if string(kept[:cap(kept)][:17]) != "outsidespare room" {
		t.Error("what have answers was changed")
	}
	for i, e := range l {
		if !bytes.Equal(room[i].Data, e.Data) || string(room[i].Data[len(e.Data):len(e.Data)+9]) != "spare ..." || room[i].At != e.At || room[i].Back != e.Back {
			t.Error("what was handed in was changed")
		}
		spoil(room[i].Data)
	}
	if string(room[len(l)].Data) != "spare" {
		t.Error("spare room was changed")
	}
	spoil(kept)
	clear(room)
	for _, o := range again {
		spoil(o.Data)
	}
	clear(again[:cap(again)])
	clear(basesAgain[:cap(basesAgain)])
	if !sameObjects(got, want) || !slices.Equal(bases, wantBases) {
		t.Fatal("Resolve keeps what it was handed, or answers what is kept")
	}
	for i := range got {
		spoil(got[i].Data)
		if !sameObjects(got[i+1:], want[i+1:]) {
			t.Fatal("objects share memory")
		}
	}
}

// TestP2Denote: the same of a pack's bytes.
func TestP2Denote(t *testing.T) {
	b := packed(t, blob("some bytes"), ofs(1, "some bytes", "some more bytes"))
	room := append(bytes.Clone(b), "spare"...)
	got, _, err := chain.Denote(room[:len(b)], nil)
	if string(room) != string(b)+"spare" {
		t.Error("what was handed in was changed")
	}
	spoil(room)
	if err != api.OK || len(got) != 2 || string(got[0].Data) != "some bytes" || string(got[1].Data) != "some more bytes" {
		t.Errorf("%+v, %v", got, err)
	}
}

func TestP1602Denote(t *testing.T) {
	b := packed(t, blob("one"), ref("one", "two"))
	for n := range b {
		want := api.ErrShort
		if n >= 32 {
			want = api.ErrSum
		}
		if got, bases, err := chain.Denote(b[:n], none); len(got) != 0 || len(bases) != 0 || err != want {
			t.Errorf("%d bytes: %+v, %v", n, got, err)
		}
	}
	for k := range b {
		x := bytes.Clone(b)
		x[k] ^= 1
		checkDenote(t, x, none)
		if k < len(b)-20 {
			checkDenote(t, resealed(x), none)
		}
	}
	if got, _, err := chain.Denote(make([]byte, api.MaxPack+1), nil); len(got) != 0 || err != api.ErrLong {
		t.Errorf("too long: %+v, %v", got, err)
	}
	// A pack's own errors go ahead of what its entries have.
	x := append(packed(t, ref("lost", "x")), 0)
	if got, _, err := chain.Denote(resealed(x), nil); len(got) != 0 || err != api.ErrForm {
		t.Errorf("a byte behind: %+v, %v", got, err)
	}
}

func TestP1602Depth(t *testing.T) {
	for _, x := range []struct {
		deep []int
		want int
	}{{nil, 0}, {[]int{0}, 0}, {[]int{3}, 3}, {[]int{0, 2, 1}, 2}, {[]int{5, 0, 1}, 5}, {[]int{0, 1, 16}, 16}, {[]int{7, 7}, 7}} {
		var l []chain.Object
		for _, deep := range x.deep {
			l = append(l, chain.Object{Deep: deep})
		}
		if got := chain.Depth(l); got != x.want {
			t.Errorf("%v: %d", x.deep, got)
		}
	}
	for n := range api.MaxChain + 1 {
		l, _, _ := row(n, entry.Ofs)
		if got, _, err := chain.Denote(packed(t, l...), nil); chain.Depth(got) != n || err != api.OK {
			t.Errorf("%d: %d, %v", n, chain.Depth(got), err)
		}
	}
}
