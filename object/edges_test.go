package object_test

import (
	"slices"
	"strings"
	"testing"

	"trove/api"
	"trove/object"
	"trove/oid"
)

func checkEdges(t *testing.T, kind int, b []byte, want []api.ID) {
	t.Helper()
	if got, err := object.Edges(kind, b); err != api.OK || !slices.Equal(got, want) {
		t.Errorf("Edges(%d, %q): %x, %v, not %x", kind, b, got, err, want)
	}
}

func checkParents(t *testing.T, kind int, b []byte, want []api.ID) {
	t.Helper()
	if got := object.Parents(kind, b); !slices.Equal(got, want) {
		t.Errorf("Parents(%d, %q): %x, not %x", kind, b, got, want)
	}
}

func TestP1204KnownObjects(t *testing.T) {
	for _, k := range known(t) {
		var want []api.ID
		for _, s := range k.edges {
			want = append(want, name(t, s))
		}
		checkEdges(t, k.kind, []byte(k.data), want)
		checkEdges(t, api.Blob, []byte(k.data), nil)
	}
}

func TestP1204EdgesOfCommits(t *testing.T) {
	a, b, c := api.ID{1}, api.ID{2}, api.ID{3}
	for _, x := range []struct {
		tree    api.ID
		parents []api.ID
		want    []api.ID
	}{
		{b, nil, []api.ID{b}},
		{b, []api.ID{c, a}, []api.ID{a, b, c}},
		{c, []api.ID{b, a}, []api.ID{a, b, c}},
		{a, []api.ID{c, a, b}, []api.ID{a, b, c}}, // its tree is a parent too
		{a, []api.ID{a}, []api.ID{a}},
		{api.ID{}, []api.ID{{255}, {}}, []api.ID{{}, {255}}},
	} {
		data, err := object.EncodeCommit(object.CommitData{Tree: x.tree, Parents: x.parents, Author: "a", Committer: "c"})
		if err != api.OK {
			t.Fatal(err)
		}
		checkEdges(t, api.Commit, data, x.want)
		checkParents(t, api.Commit, data, x.parents)
	}
}

func TestP1204EdgesOfTrees(t *testing.T) {
	a, b := api.ID{1}, api.ID{2}
	for _, x := range []struct {
		l    []object.Entry
		want []api.ID
	}{
		{nil, nil},
		{[]object.Entry{{file, "a", b}, {dir, "b", a}}, []api.ID{a, b}},
		{[]object.Entry{{link, "a", b}, {runs, "b", a}, {file, "c", b}}, []api.ID{a, b}},
		{[]object.Entry{{module, "a", a}}, nil},
		{[]object.Entry{{module, "a", a}, {file, "b", b}}, []api.ID{b}},
		{[]object.Entry{{module, "a", a}, {file, "b", a}}, []api.ID{a}}, // another entry leads there
		{[]object.Entry{{file, "a", a}, {module, "b", a}, {module, "c", b}}, []api.ID{a}},
	} {
		checkEdges(t, api.Tree, treeBytes(x.l), x.want)
	}
	l := dirs(api.MaxItems)
	var want []api.ID
	for _, e := range l {
		want = append(want, e.ID)
	}
	checkEdges(t, api.Tree, treeBytes(l), oid.Sort(want))
}

func TestP1204EdgesOfTags(t *testing.T) {
	for kind := range kinds {
		b, err := object.EncodeTag(object.TagData{Object: numbered(kind), Kind: kind, Name: "v", Tagger: "t", Message: "object " + treeHex})
		if err != api.OK {
			t.Fatal(err)
		}
		checkEdges(t, api.Tag, b, []api.ID{numbered(kind)})
		checkParents(t, api.Tag, b, nil)
	}
}

func TestP1204EdgesAnswerChecksError(t *testing.T) {
	wrong := [][]byte{nil, []byte("x"), []byte(strings.Repeat("x", api.MaxObject)), []byte(strings.Repeat("x", api.MaxObject+1)), treeBytes(dirs(api.MaxItems + 1)), treeBytes(dirs(2))[1:]}
	for _, k := range known(t) {
		wrong = append(wrong, []byte(k.data), []byte("x"+k.data))
	}
	for _, kind := range append(noKinds, 1, 2, 3, 4) {
		for _, b := range wrong {
			want := object.Check(kind, b)
			if got, err := object.Edges(kind, b); err != want || want != api.OK && len(got) != 0 {
				t.Errorf("Edges(%d, %.20q): %x, %v, not %v", kind, b, got, err, want)
			}
		}
	}
}

func TestP1204ParentsOfAllElse(t *testing.T) {
	one, two := name(t, oneHex), name(t, twoHex)
	for _, k := range known(t) {
		var want []api.ID
		switch k.name {
		case twoHex:
			want = []api.ID{one}
		case joinHex:
			want = []api.ID{two, one} // in its own order
		}
		checkParents(t, api.Commit, []byte(k.data), want)
		for _, kind := range append(noKinds, api.Tree, api.Blob, api.Tag) {
			checkParents(t, kind, []byte(k.data), nil)
		}
	}
	right := "tree " + treeHex + "\nparent " + oneHex + "\nauthor a\ncommitter c\n\n"
	checkParents(t, api.Commit, []byte(right), []api.ID{one})
	for _, s := range []string{"", right[:len(right)-1], right[1:], strings.Replace(right, "author a", "author ", 1), right + strings.Repeat("m", api.MaxObject)} {
		checkParents(t, api.Commit, []byte(s), nil)
	}
}
