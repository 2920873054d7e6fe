package graph_test

import (
	"bytes"
	"crypto/sha1"
	"encoding/binary"
	"maps"
	"math"
	"slices"
	"testing"

	"trove/api"
	"trove/graph"
)

// sealed answers b and its sum behind it.
func sealed(b []byte) []byte {
	id := sha1.Sum(b)
	return slices.Concat(b, id[:])
}

// resealed answers b with its last twenty bytes made right.
func resealed(b []byte) []byte { return sealed(b[:len(b)-20]) }

// set answers b with the number v of four bytes at a place, and the sum made right.
func set(b []byte, at int, v uint32) []byte {
	out := bytes.Clone(b)
	binary.BigEndian.PutUint32(out[at:], v)
	return resealed(out)
}

// told is what a graph tells of a commit, field by field.
type told struct {
	id, tree      api.ID
	first, second uint32
	last          uint64
}

// laid answers the bytes of these commits and rows of EDGE as they stand, whether they may be or not.
func laid(l []told, edges []uint32) []byte {
	var chunks [4][]byte
	for first := range 256 {
		n := 0
		for _, x := range l {
			if int(x.id[0]) <= first {
				n++
			}
		}
		chunks[0] = binary.BigEndian.AppendUint32(chunks[0], uint32(n))
	}
	for _, x := range l {
		chunks[1] = append(chunks[1], x.id[:]...)
		chunks[2] = append(chunks[2], x.tree[:]...)
		chunks[2] = binary.BigEndian.AppendUint32(chunks[2], x.first)
		chunks[2] = binary.BigEndian.AppendUint32(chunks[2], x.second)
		chunks[2] = binary.BigEndian.AppendUint64(chunks[2], x.last)
	}
	for _, p := range edges {
		chunks[3] = binary.BigEndian.AppendUint32(chunks[3], p)
	}
	letters := []string{"OIDF", "OIDL", "CDAT", "EDGE"}
	if len(edges) == 0 {
		letters = letters[:3]
	}
	b := []byte{67, 71, 80, 72, 1, 1, byte(len(letters)), 0}
	at := uint64(20 + 12*len(letters))
	for i, s := range letters {
		b = binary.BigEndian.AppendUint64(append(b, s...), at)
		at += uint64(len(chunks[i]))
	}
	b = binary.BigEndian.AppendUint64(append(b, 0, 0, 0, 0), at)
	return sealed(slices.Concat(b, chunks[0], chunks[1], chunks[2], chunks[3]))
}

// slowGenerations lets the generations grow until they stay; those of a loop would grow for ever.
func slowGenerations(l []graph.Node) (map[api.ID]int, api.Errno) {
	out := map[api.ID]int{}
	for i, n := range l {
		for _, other := range l[:i] {
			if other.ID == n.ID {
				return nil, api.ErrExists
			}
		}
	}
	for range len(l) + 1 {
		was := maps.Clone(out)
		for _, n := range l {
			g := 1
			for _, p := range n.Parents {
				g = max(g, out[p]+1)
			}
			out[n.ID] = g
		}
		if maps.Equal(was, out) {
			return out, api.OK
		}
	}
	return nil, api.ErrLoop
}

// slowClosed goes through all nodes again and again, as long as one more of them is closed.
func slowClosed(l []graph.Node) []graph.Node {
	var out []graph.Node
	has := func(l []graph.Node, id api.ID) bool {
		return slices.ContainsFunc(l, func(n graph.Node) bool { return n.ID == id })
	}
	for grows := true; grows; {
		grows = false
		for i, n := range l {
			if has(l[:i], n.ID) || has(out, n.ID) || slices.ContainsFunc(n.Parents, func(p api.ID) bool { return !has(out, p) }) {
				continue
			}
			out = append(out, n)
			grows = true
		}
	}
	slices.SortFunc(out, byID)
	return out
}

func byID(a, b graph.Node) int { return bytes.Compare(a.ID[:], b.ID[:]) }

// slowBuild makes the fields of each commit from what stands in order.
func slowBuild(nodes []graph.Node) ([]byte, api.Errno) {
	l := slices.SortedFunc(slices.Values(nodes), byID)
	number := func(id api.ID) (uint32, bool) {
		i := slices.IndexFunc(l, func(n graph.Node) bool { return n.ID == id })
		return uint32(i), i >= 0
	}
	for i, n := range l {
		if n.Date < 0 || n.Date > 17179869183 || i > 0 && l[i-1].ID == n.ID {
			return nil, api.ErrArg
		}
		for _, p := range n.Parents {
			if _, is := number(p); !is {
				return nil, api.ErrArg
			}
		}
	}
	generations, err := slowGenerations(l)
	if err != api.OK {
		return nil, err
	}
	if len(l) > 1024 {
		return nil, api.ErrLong
	}
	var rows []told
	var edges []uint32
	for _, n := range l {
		x := told{id: n.ID, tree: n.Tree, first: 0x70000000, second: 0x70000000, last: uint64(generations[n.ID])*17179869184 + uint64(n.Date)}
		var parents []uint32
		for _, p := range n.Parents {
			i, _ := number(p)
			parents = append(parents, i)
		}
		switch len(parents) {
		case 0:
		case 1:
			x.first = parents[0]
		case 2:
			x.first, x.second = parents[0], parents[1]
		default:
			x.first, x.second = parents[0], 0x80000000+uint32(len(edges))
			edges = append(edges, parents[1:]...)
			edges[len(edges)-1] += 0x80000000
		}
		rows = append(rows, x)
	}
	return laid(rows, edges), api.OK
}

// slowOpen asks one thing after the other of the bytes where they stand, and makes none anew but the table and the fanout.
func slowOpen(b []byte) ([]graph.Node, api.Errno) {
	switch {
	case len(b) > 262144:
		return nil, api.ErrLong
	case len(b) < 28:
		return nil, api.ErrShort
	case !bytes.Equal(b[:6], []byte("CGPH\x01\x01")):
		return nil, api.ErrForm
	case !bytes.Equal(resealed(b), b):
		return nil, api.ErrSum
	case b[6] != 3 && b[6] != 4:
		return nil, api.ErrForm
	}
	four := func(at int) uint32 { return binary.BigEndian.Uint32(b[at:]) }
	fan := 20 + 12*int(b[6])
	if len(b) < fan+1024+20 {
		return nil, api.ErrForm
	}
	n := int(four(fan + 1020))
	edge := fan + 1024 + 56*n
	if n > 1024 || edge > len(b)-20 || len(b)%4 != 0 || (b[6] == 4) != (edge < len(b)-20) {
		return nil, api.ErrForm
	}
	var rows []told
	var edges []uint32
	for i := range n {
		d := fan + 1024 + 20*n + 36*i
		rows = append(rows, told{id: api.ID(b[fan+1024+20*i:]), tree: api.ID(b[d:]), first: four(d + 20), second: four(d + 24), last: binary.BigEndian.Uint64(b[d+28:])})
	}
	for at := edge; at < len(b)-20; at += 4 {
		edges = append(edges, four(at))
	}
	if !bytes.Equal(laid(rows, edges), b) {
		return nil, api.ErrForm
	}
	return slowNodes(rows, edges)
}

// slowNodes answers the nodes of what a graph tells field by field.
func slowNodes(rows []told, edges []uint32) ([]graph.Node, api.Errno) {
	var l []graph.Node
	next := 0 // the row of EDGE that nobody has yet
	for i, x := range rows {
		if i > 0 && bytes.Compare(rows[i-1].id[:], x.id[:]) >= 0 {
			return nil, api.ErrForm
		}
		parents := []uint32{x.first, x.second}
		switch {
		case x.first == 0x70000000 && x.second == 0x70000000:
			parents = nil
		case x.second == 0x70000000:
			parents = parents[:1]
		case x.second >= 0x80000000:
			end := next
			for end < len(edges) && edges[end] < 0x80000000 {
				end++
			}
			if x.second != 0x80000000+uint32(next) || end == len(edges) || end == next {
				return nil, api.ErrForm
			}
			parents = append(append(parents[:1], edges[next:end]...), edges[end]-0x80000000)
			next = end + 1
		}
		node := graph.Node{ID: x.id, Tree: x.tree, Date: int(x.last % 17179869184)}
		for _, p := range parents {
			if p >= uint32(len(rows)) {
				return nil, api.ErrForm
			}
			node.Parents = append(node.Parents, rows[p].id)
		}
		l = append(l, node)
	}
	generations, err := slowGenerations(l)
	if err != api.OK || next < len(edges) {
		return nil, api.ErrForm
	}
	for _, x := range rows {
		if x.last/17179869184 != uint64(generations[x.id]) {
			return nil, api.ErrForm
		}
	}
	return l, api.OK
}

// checkOpen holds all that Open tells of b against the slow model.
func checkOpen(t testing.TB, b []byte) api.Errno {
	t.Helper()
	l, want := slowOpen(b)
	was := bytes.Clone(b)
	g, err := graph.Open(b)
	if err != want || (g == nil) != (err != api.OK) {
		t.Fatalf("Open(%d bytes): %v, %v, not %v", len(b), g, err, want)
	}
	if !bytes.Equal(b, was) {
		t.Fatalf("Open changed %x to %x", was, b)
	}
	if err == api.OK {
		checkGraph(t, g, l)
	}
	return err
}

// checkGraph demands that g tells just these nodes, which are in order.
func checkGraph(t testing.TB, g *graph.Graph, l []graph.Node) {
	t.Helper()
	if g.Len() != len(l) {
		t.Fatalf("Len: %d, not %d", g.Len(), len(l))
	}
	generations, _ := slowGenerations(l)
	numbers := map[api.ID]int{}
	for i, n := range l {
		numbers[n.ID] = i
	}
	for i, want := range l {
		n, is := g.Node(i)
		if !is || !sameNode(n, want) {
			t.Fatalf("Node(%d): %+v, %v, not %+v", i, n, is, want)
		}
		if got := g.Generation(i); got != generations[want.ID] {
			t.Fatalf("Generation(%d): %d, not %d", i, got, generations[want.ID])
		}
		var parents []int
		for _, p := range want.Parents {
			parents = append(parents, numbers[p])
		}
		if got := g.Parents(i); !slices.Equal(got, parents) {
			t.Fatalf("Parents(%d): %v, not %v", i, got, parents)
		}
		checkFind(t, g, numbers, want.ID)
		for at := range want.ID {
			for _, by := range []byte{1, 255} {
				id := want.ID
				id[at] += by
				checkFind(t, g, numbers, id)
			}
		}
	}
	checkFind(t, g, numbers, api.ID{})
	checkFind(t, g, numbers, api.ID(bytes.Repeat([]byte{255}, 20)))
	for _, i := range []int{-1, -2, math.MinInt, len(l), len(l) + 1, 0x70000000, math.MaxInt32, math.MaxInt} {
		if n, is := g.Node(i); is || !sameNode(n, graph.Node{}) || g.Generation(i) != 0 || len(g.Parents(i)) != 0 {
			t.Fatalf("of %d: %+v, %v, %d, %v", i, n, is, g.Generation(i), g.Parents(i))
		}
	}
}

func checkFind(t testing.TB, g *graph.Graph, numbers map[api.ID]int, id api.ID) {
	t.Helper()
	want, there := numbers[id]
	if i, is := g.Find(id); i != want || is != there {
		t.Fatalf("Find(%x): %d, %v, not %d, %v", id, i, is, want, there)
	}
}

// checkBuild holds Build of l against the slow model, and has what it made read again.
func checkBuild(t testing.TB, l []graph.Node) ([]byte, api.Errno) {
	t.Helper()
	want, wantErr := slowBuild(l)
	was := cloned(l)
	b, err := graph.Build(l)
	if err != wantErr || !bytes.Equal(b, want) {
		t.Fatalf("Build(%+v): %x, %v, not %x, %v", l, b, err, want, wantErr)
	}
	if !same(l, was) {
		t.Fatalf("Build changed %+v to %+v", was, l)
	}
	if err == api.OK {
		if err := checkOpen(t, b); err != api.OK && len(b) <= api.MaxFile {
			t.Fatalf("Open of Build(%+v): %v", l, err)
		}
	}
	return b, err
}

// checkClosed holds Closed and Generations of l against the slow model.
func checkClosed(t testing.TB, l []graph.Node) ([]graph.Node, map[api.ID]int, api.Errno) {
	t.Helper()
	was := cloned(l)
	closed, want := graph.Closed(l), slowClosed(l)
	if !same(closed, want) {
		t.Fatalf("Closed(%+v): %+v, not %+v", l, closed, want)
	}
	m, err := graph.Generations(l)
	wantMap, wantErr := slowGenerations(l)
	if err != wantErr || !maps.Equal(m, wantMap) {
		t.Fatalf("Generations(%+v): %v, %v, not %v, %v", l, m, err, wantMap, wantErr)
	}
	if !same(l, was) {
		t.Fatalf("%+v was changed to %+v", was, l)
	}
	return closed, m, err
}

func cloned(l []graph.Node) []graph.Node {
	out := slices.Clone(l)
	for i := range out {
		out[i].Parents = slices.Clone(out[i].Parents)
	}
	return out
}

func sameNode(a, b graph.Node) bool {
	return a.ID == b.ID && a.Tree == b.Tree && a.Date == b.Date && slices.Equal(a.Parents, b.Parents)
}

func same(a, b []graph.Node) bool { return slices.EqualFunc(a, b, sameNode) }
