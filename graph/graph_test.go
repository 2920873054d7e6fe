package graph_test

import (
	"bytes"
	"encoding/binary"
	"math"
	"math/rand"
	"slices"
	"testing"

	"trove/api"
	"trove/graph"
)

// few: commits in an order that is not that of their IDs, some with three parents and more, two of which begin alike.
func few() []graph.Node {
	a := graph.Node{ID: api.ID{7, 7, 7}, Tree: api.ID{1, 19: 1}, Date: 1<<34 - 1}
	b := graph.Node{ID: api.ID{7, 7, 9}, Tree: api.ID{2}, Date: 0, Parents: []api.ID{a.ID}}
	c := graph.Node{ID: api.ID{0, 19: 1}, Tree: api.ID{2}, Date: 1 << 32, Parents: []api.ID{b.ID, a.ID}}
	d := graph.Node{ID: api.ID{255, 3}, Date: 1 << 33, Parents: []api.ID{a.ID, c.ID, b.ID}}
	e := graph.Node{ID: api.ID{3}, Tree: api.ID{19: 255}, Date: 77, Parents: []api.ID{d.ID, a.ID, c.ID, a.ID}}
	return []graph.Node{d, b, e, a, c}
}

// Where the pieces of few's graph stand.
const (
	fewFan   = 68
	fewIDs   = fewFan + 1024
	fewData  = fewIDs + 5*20
	fewEdges = fewData + 5*36
)

func fewBytes(t testing.TB) []byte {
	t.Helper()
	b, err := graph.Build(few())
	if err != api.OK || len(b) != fewEdges+5*4+20 {
		t.Fatalf("%d bytes, %v", len(b), err)
	}
	return b
}

// TestP1902ByHand: a graph whose every byte is written out.
func TestP1902ByHand(t *testing.T) {
	name := func(first byte) []byte { return append([]byte{first}, bytes.Repeat([]byte{0xAB}, 19)...) }
	tree := func(last byte) []byte { return append(bytes.Repeat([]byte{0xCD}, 19), last) }
	b := []byte("CGPH\x01\x01\x04\x00")
	b = append(b, "OIDF\x00\x00\x00\x00\x00\x00\x00\x44"...) // 68
	b = append(b, "OIDL\x00\x00\x00\x00\x00\x00\x04\x44"...) // and 1024
	b = append(b, "CDAT\x00\x00\x00\x00\x00\x00\x04\xBC"...) // and 120
	b = append(b, "EDGE\x00\x00\x00\x00\x00\x00\x05\x94"...) // and 216
	b = append(b, "\x00\x00\x00\x00\x00\x00\x00\x00\x00\x00\x05\xA8"...)
	for first := range 256 {
		switch {
		case first < 3:
			b = append(b, 0, 0, 0, 0)
		case first < 0x70:
			b = append(b, 0, 0, 0, 1)
		case first < 0x71:
			b = append(b, 0, 0, 0, 2)
		case first < 0x90:
			b = append(b, 0, 0, 0, 3)
		case first < 0xF1:
			b = append(b, 0, 0, 0, 4)
		case first < 0xFF:
			b = append(b, 0, 0, 0, 5)
		default:
			b = append(b, 0, 0, 0, 6)
		}
	}
	b = slices.Concat(b, name(3), name(0x70), name(0x71), name(0x90), name(0xF1), name(0xFF))
	b = append(append(b, tree(1)...), "\x00\x00\x00\x04\x80\x00\x00\x00\x00\x00\x00\x14\x00\x00\x00\x09"...) // 3: generation 5, of F1, 70, 71
	b = append(append(b, tree(2)...), "\x70\x00\x00\x00\x70\x00\x00\x00\x00\x00\x00\x07\xFF\xFF\xFF\xFF"...) // 70: generation 1
	b = append(append(b, tree(3)...), "\x00\x00\x00\x01\x70\x00\x00\x00\x00\x00\x00\x08\x00\x00\x00\x00"...) // 71: generation 2, of 70
	b = append(append(b, tree(1)...), "\x00\x00\x00\x02\x00\x00\x00\x01\x00\x00\x00\x0D\x01\x02\x03\x04"...) // 90: generation 3, of 71 and 70
	b = append(append(b, tree(9)...), "\x00\x00\x00\x03\x80\x00\x00\x02\x00\x00\x00\x13\x00\x00\x00\x00"...) // F1: generation 4, of 90, 70, 71, 90
	b = append(append(b, tree(0)...), "\x70\x00\x00\x00\x70\x00\x00\x00\x00\x00\x00\x04\x00\x00\x00\x00"...) // FF: generation 1
	b = append(b, "\x00\x00\x00\x01\x80\x00\x00\x02"+"\x00\x00\x00\x01\x00\x00\x00\x02\x80\x00\x00\x03"...)
	b = sealed(b)
	made := func(first, last byte, date int, parents ...byte) graph.Node {
		n := graph.Node{ID: api.ID(name(first)), Tree: api.ID(tree(last)), Date: date}
		for _, p := range parents {
			n.Parents = append(n.Parents, api.ID(name(p)))
		}
		return n
	}
	l := []graph.Node{
		made(3, 1, 9, 0xF1, 0x70, 0x71), made(0x70, 2, 17179869183), made(0x71, 3, 0, 0x70),
		made(0x90, 1, 0x101020304, 0x71, 0x70), made(0xF1, 9, 0x300000000, 0x90, 0x70, 0x71, 0x90), made(0xFF, 0, 0),
	}
	all := slices.Clone(l)
	orders(all, func() {
		if got, err := graph.Build(all); err != api.OK || !bytes.Equal(got, b) {
			t.Fatalf("%+v: %x, %v, not %x", all, got, err, b)
		}
	})
	g, err := graph.Open(b)
	if err != api.OK || g.Len() != 6 {
		t.Fatal(err)
	}
	generations, parents := []int{5, 1, 2, 3, 4, 1}, [][]int{{4, 1, 2}, nil, {1}, {2, 1}, {3, 1, 2, 3}, nil}
	for i, want := range l {
		if n, is := g.Node(i); !is || !sameNode(n, want) || g.Generation(i) != generations[i] || !slices.Equal(g.Parents(i), parents[i]) {
			t.Errorf("%d: %+v, %v, %d, %v", i, n, is, g.Generation(i), g.Parents(i))
		}
		if k, is := g.Find(want.ID); !is || k != i {
			t.Errorf("%d: %d, %v", i, k, is)
		}
	}
	if i, is := g.Find(api.ID{3}); is || i != 0 {
		t.Errorf("%d, %v", i, is)
	}
}

// TestP1902Few: few's graph, and how each of its faces tells of it.
func TestP1902Few(t *testing.T) {
	want, l := fewBytes(t), few()
	orders(l, func() {
		if b, err := checkBuild(t, l); err != api.OK || !bytes.Equal(b, want) {
			t.Fatalf("%+v: %v", l, err)
		}
	})
	g, err := graph.Open(want)
	if err != api.OK || g.Len() != 5 {
		t.Fatal(err)
	}
	for i, c := range []struct {
		node, generation int
		parents          []int
	}{{4, 3, []int{3, 2}}, {2, 5, []int{4, 2, 0, 2}}, {3, 1, nil}, {1, 2, []int{2}}, {0, 4, []int{2, 0, 3}}} {
		want := few()[c.node]
		n, is := g.Node(i)
		if k, found := g.Find(want.ID); !is || !found || k != i || !sameNode(n, want) || g.Generation(i) != c.generation || !slices.Equal(g.Parents(i), c.parents) {
			t.Errorf("%d: %+v, %v, %d, %v", i, n, is, g.Generation(i), g.Parents(i))
		}
	}
}

// TestP1902None: no commits; and ones of which none has more than two parents, so that there is no EDGE.
func TestP1902None(t *testing.T) {
	for _, l := range [][]graph.Node{nil, {}} {
		b, err := checkBuild(t, l)
		if err != api.OK || len(b) != 1100 || b[6] != 3 {
			t.Errorf("%d bytes, %v", len(b), err)
		}
	}
	for _, l := range [][]graph.Node{{node(0)}, {node(1), node(2)}, {node(1), node(2, 1), node(3, 2)}, {node(3), node(2, 3, 3), node(1, 2, 3)}} {
		if b, err := checkBuild(t, l); err != api.OK || len(b) != 1100+56*len(l) || b[6] != 3 {
			t.Errorf("%+v: %d bytes, %v", l, len(b), err)
		}
	}
	if b, err := checkBuild(t, []graph.Node{node(3), node(2, 3, 3, 3)}); err != api.OK || len(b) != 1100+12+2*56+8 || b[6] != 4 {
		t.Errorf("%d bytes, %v", len(b), err)
	}
}

// TestP1902Date: dates at their bounds and beside them.
func TestP1902Date(t *testing.T) {
	for date, want := range map[int]api.Errno{
		0: api.OK, 1: api.OK, 1<<31 - 1: api.OK, 1 << 31: api.OK, 1<<32 - 1: api.OK, 1 << 32: api.OK, 1 << 33: api.OK, 1<<34 - 2: api.OK, 1<<34 - 1: api.OK,
		1 << 34: api.ErrArg, 1<<34 + 1: api.ErrArg, 1 << 35: api.ErrArg, 1<<63 - 1: api.ErrArg, -1: api.ErrArg, -1 << 34: api.ErrArg, math.MinInt: api.ErrArg,
	} {
		x := node(2, 1)
		x.Date = date
		for _, l := range [][]graph.Node{{x, node(1)}, {node(1), x, node(3, 2, 1)}, {node(5), node(1), x}} {
			if _, err := checkBuild(t, l); err != want {
				t.Errorf("%d: %v", date, err)
			}
		}
	}
}

// TestP1902Wrong: what Build does not take, in any order of the nodes; ErrArg goes ahead of ErrLoop.
func TestP1902Wrong(t *testing.T) {
	late := node(4)
	late.Date = 1 << 34
	other := node(1)
	other.Tree, other.Date = api.ID{9}, 3
	for _, c := range []struct {
		l   []graph.Node
		err api.Errno
	}{
		{[]graph.Node{node(1), node(1)}, api.ErrArg},
		{[]graph.Node{node(1), other}, api.ErrArg},
		{[]graph.Node{node(1), node(2, 1), other}, api.ErrArg},
		{[]graph.Node{node(1, 2)}, api.ErrArg},
		{[]graph.Node{node(1), node(2, 1, 3)}, api.ErrArg},
		{[]graph.Node{node(1), node(2, 3, 1)}, api.ErrArg},
		{[]graph.Node{node(1), node(2, 1, 1, 1, 0)}, api.ErrArg},
		{[]graph.Node{late}, api.ErrArg},
		{[]graph.Node{node(1), node(2, 1), late}, api.ErrArg},
		{[]graph.Node{node(1, 1)}, api.ErrLoop},
		{[]graph.Node{node(1, 2), node(2, 1)}, api.ErrLoop},
		{[]graph.Node{node(1, 4), node(2, 1), node(3), node(4, 3, 2)}, api.ErrLoop},
		{[]graph.Node{node(3), node(2, 3, 3, 3, 2), node(1)}, api.ErrLoop},
		{[]graph.Node{node(1, 1), node(1, 1)}, api.ErrArg},
		{[]graph.Node{node(1, 1), node(2, 3)}, api.ErrArg},
		{[]graph.Node{node(1, 2), node(2, 1, 3)}, api.ErrArg},
		{[]graph.Node{node(1, 1), late}, api.ErrArg},
	} {
		orders(c.l, func() {
			if b, err := checkBuild(t, c.l); err != c.err || len(b) != 0 {
				t.Fatalf("%+v: %v", c.l, err)
			}
		})
	}
}

// TestP1902Many: as many commits as there may be, and one more; in a line and side by side; ErrLong comes last.
func TestP1902Many(t *testing.T) {
	for _, turned := range []bool{false, true} {
		b, err := checkBuild(t, line(1024, turned))
		if err != api.OK || len(b) != 1100+56*1024 {
			t.Fatalf("%d bytes, %v", len(b), err)
		}
		g, err := graph.Open(b)
		if err != api.OK || g.Generation(0) != 1024 || g.Generation(1023) != 1 || g.Parents(1022)[0] != 1023 {
			t.Fatal(err)
		}
		l := line(1025, turned)
		if b, err := checkBuild(t, l); err != api.ErrLong || len(b) != 0 {
			t.Fatalf("%d bytes, %v", len(b), err)
		}
		last := slices.IndexFunc(l, func(n graph.Node) bool { return len(n.Parents) == 0 })
		l[last].Parents = []api.ID{l[500].ID}
		if _, err := graph.Build(l); err != api.ErrLoop {
			t.Error(err)
		}
		l[last].Parents = []api.ID{{200}}
		if _, err := graph.Build(l); err != api.ErrArg {
			t.Error(err)
		}
		l[last] = l[7]
		if _, err := graph.Build(l); err != api.ErrArg {
			t.Error(err)
		}
		l = line(1025, turned)
		l[last].Date = -1
		if _, err := graph.Build(l); err != api.ErrArg {
			t.Error(err)
		}
	}
	var l []graph.Node
	for i := range 1025 {
		l = append(l, node(i*50))
	}
	for n, want := range map[int]api.Errno{1023: api.OK, 1024: api.OK, 1025: api.ErrLong} {
		if _, err := checkBuild(t, l[:n]); err != want {
			t.Errorf("%d: %v", n, err)
		}
	}
}

// crowded answers a commit and two others that have it as a parent so often that their second and further parents are edges in all.
func crowded(edges int) []graph.Node {
	some := slices.Repeat([]api.ID{id(1)}, edges/2+1)
	rest := slices.Repeat([]api.ID{id(1)}, edges-edges/2+1)
	rest[len(rest)-1] = id(2)
	return []graph.Node{node(1), {ID: id(2), Parents: some}, {ID: id(3), Parents: rest}}
}

// TestP1902Edges: how many parents there are is not asked; but what Build makes of very many is longer than Open takes.
func TestP1902Edges(t *testing.T) {
	for _, n := range []int{4, 5, 511, 512, 513, 1024, 5000} {
		if b, err := checkBuild(t, crowded(n)); err != api.OK || len(b) != 1112+3*56+4*n {
			t.Errorf("%d: %d bytes, %v", n, len(b), err)
		}
	}
	const most = (api.MaxFile - 1112 - 3*56) / 4
	b, err := checkBuild(t, crowded(most))
	if err != api.OK || len(b) != api.MaxFile {
		t.Fatalf("%d bytes, %v", len(b), err)
	}
	g, err := graph.Open(b)
	if err != api.OK || len(g.Parents(2)) != most-most/2+1 || g.Generation(2) != 3 {
		t.Fatal(err)
	}
	b, err = checkBuild(t, crowded(most+1))
	if err != api.OK || len(b) != api.MaxFile+4 {
		t.Fatalf("%d bytes, %v", len(b), err)
	}
	if g, err := graph.Open(b); err != api.ErrLong || g != nil {
		t.Error(err)
	}
}

// TestP1902Random: some nodes of all kinds.
func TestP1902Random(t *testing.T) {
	random := rand.New(rand.NewSource(1902))
	counts := map[api.Errno]int{}
	edges := 0
	for range 8000 {
		b, err := checkBuild(t, someNodes(random))
		counts[err]++
		if err == api.OK && b[6] == 4 {
			edges++
		}
	}
	if counts[api.OK] < 4000 || counts[api.ErrArg] < 300 || counts[api.ErrLoop] < 100 || edges < 1000 {
		t.Errorf("%v, %d", counts, edges)
	}
}

// TestP1902Wide: many commits with many parents each, of which first bytes come often and never.
func TestP1902Wide(t *testing.T) {
	random := rand.New(rand.NewSource(7))
	var l []graph.Node
	for i := range 700 {
		n := graph.Node{ID: api.ID{byte(random.Intn(5) * 60)}, Date: random.Intn(1 << 34)}
		binary.BigEndian.PutUint32(n.ID[16:], uint32(i))
		for range min(i, random.Intn(40)) {
			n.Parents = append(n.Parents, l[random.Intn(i)].ID)
		}
		l = append(l, n)
	}
	random.Shuffle(len(l), func(i, j int) { l[i], l[j] = l[j], l[i] })
	if _, err := checkBuild(t, l); err != api.OK {
		t.Error(err)
	}
}

// TestP1902New: what is answered is new, what is handed in is not kept, and asked again all is the same.
func TestP1902New(t *testing.T) {
	b := fewBytes(t)
	room := append(bytes.Clone(b), "room"...)[:len(b)]
	g, err := graph.Open(room)
	if err != api.OK {
		t.Fatal(err)
	}
	if string(room[:len(b)+4][len(b):]) != "room" {
		t.Error("Open wrote behind what it was handed")
	}
	clear(room)
	want, _ := slowOpen(b)
	for range 2 {
		checkGraph(t, g, want)
		for i := range g.Len() {
			n, _ := g.Node(i)
			parents := g.Parents(i)
			for k := range parents {
				n.Parents[k], parents[k] = api.ID{99}, 99
			}
			_, _ = append(n.Parents, api.ID{98}), append(parents, 98)
		}
	}
	l := few()
	shared := []api.ID{l[3].ID, l[3].ID, {77}, {78}}
	l[1].Parents, l[4].Parents = shared[:1], shared[:2]
	for range 2 {
		made, err := graph.Build(l)
		again, errAgain := graph.Build(l)
		if err != api.OK || errAgain != api.OK || !bytes.Equal(made, again) {
			t.Fatalf("%v, %v", err, errAgain)
		}
		clear(made)
		if bytes.Equal(made, again) || shared[0] != l[3].ID || shared[2] != (api.ID{77}) || shared[3] != (api.ID{78}) {
			t.Errorf("%v", shared)
		}
	}
	other, err := graph.Open(b)
	if err != api.OK {
		t.Fatal(err)
	}
	if _, err := graph.Open(b[:40]); err != api.ErrSum {
		t.Error(err)
	}
	checkGraph(t, other, want)
	checkGraph(t, g, want)
}
