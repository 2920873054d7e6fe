package graph_test

import (
	"encoding/binary"
	"maps"
	"math/rand"
	"slices"
	"testing"

	"trove/api"
	"trove/graph"
)

// id answers an ID of which n is the front.
func id(n int) api.ID {
	var out api.ID
	binary.BigEndian.PutUint16(out[:], uint16(n))
	return out
}

// node answers a commit by the fronts of its ID and of its parents'.
func node(n int, parents ...int) graph.Node {
	x := graph.Node{ID: id(n), Tree: api.ID{19: byte(n)}, Date: 1000000 + n}
	for _, p := range parents {
		x.Parents = append(x.Parents, id(p))
	}
	return x
}

// orders calls do with each order of l, which is put right again behind it.
func orders[T any](l []T, do func()) {
	if len(l) < 2 {
		do()
		return
	}
	for i := range l {
		l[0], l[i] = l[i], l[0]
		orders(l[1:], do)
		l[0], l[i] = l[i], l[0]
	}
}

// fronts answers the numbers of which node made these.
func fronts(l []graph.Node) []int {
	var out []int
	for _, n := range l {
		out = append(out, int(binary.BigEndian.Uint16(n.ID[:])))
	}
	return out
}

// TestP1901Closed: what of some nodes is closed, in any order of them.
func TestP1901Closed(t *testing.T) {
	for _, c := range []struct {
		l    []graph.Node
		want []int
	}{
		{nil, nil},
		{[]graph.Node{}, nil},
		{[]graph.Node{node(0)}, []int{0}},
		{[]graph.Node{node(5), node(4), node(3)}, []int{3, 4, 5}},
		{[]graph.Node{node(1, 2), node(2, 3), node(3, 4), node(4)}, []int{1, 2, 3, 4}},
		{[]graph.Node{node(1, 2), node(2, 3), node(3, 4), node(4, 5)}, nil},                           // 5 is not there
		{[]graph.Node{node(9), node(1, 9), node(2, 9, 8), node(3, 2), node(4, 1, 9)}, []int{1, 4, 9}}, // 8 is not, so neither 2 nor 3 is closed
		{[]graph.Node{node(4, 3, 2), node(3, 1), node(2, 1), node(1)}, []int{1, 2, 3, 4}},             // two ways to 1
		{[]graph.Node{node(4, 3, 3, 1, 3), node(3, 1, 1), node(1)}, []int{1, 3, 4}},                   // a parent that comes twice
		{[]graph.Node{node(4, 3, 3, 1, 7), node(3, 1, 1), node(1)}, []int{1, 3}},
		{[]graph.Node{node(1, 1), node(2)}, []int{2}}, // 1 leads back to itself
		{[]graph.Node{node(1, 2), node(2, 1), node(3, 1), node(4)}, []int{4}},
		{[]graph.Node{node(1, 2), node(2, 3), node(3, 1, 4), node(4), node(5, 4, 3)}, []int{4}},
		{[]graph.Node{node(1, 1, 1), node(2, 1, 1)}, nil},
	} {
		orders(c.l, func() {
			if l, _, _ := checkClosed(t, c.l); !slices.Equal(fronts(l), c.want) {
				t.Fatalf("%+v: %v, not %v", c.l, fronts(l), c.want)
			}
		})
	}
}

// TestP1901First: of an ID that comes twice it is the first that counts, be it closed or not, and all of it is told.
func TestP1901First(t *testing.T) {
	open, bare := node(2, 7), node(2)
	bare.Tree, bare.Date = api.ID{5}, -3
	for _, c := range []struct {
		l    []graph.Node
		want []graph.Node
	}{
		{[]graph.Node{bare, open}, []graph.Node{bare}},
		{[]graph.Node{open, bare}, nil},
		{[]graph.Node{open, bare, node(1)}, []graph.Node{node(1)}},
		{[]graph.Node{node(3, 2), bare, open, open, node(3)}, []graph.Node{bare, node(3, 2)}},
		{[]graph.Node{node(3, 2), open, bare, bare, node(3)}, nil},
		{[]graph.Node{node(3), node(3, 2), open, bare}, []graph.Node{node(3)}},
		{[]graph.Node{bare, node(2), bare}, []graph.Node{bare}},
		{[]graph.Node{node(1, 1), node(1)}, nil},
		{[]graph.Node{node(1), node(1, 1)}, []graph.Node{node(1)}},
	} {
		if l, _, err := checkClosed(t, c.l); !same(l, c.want) || err != api.ErrExists {
			t.Errorf("%+v: %+v, not %+v; %v", c.l, l, c.want, err)
		}
	}
}

// TestP1901Tells: all that a node has is told as it is; dates and trees are not asked.
func TestP1901Tells(t *testing.T) {
	a := graph.Node{ID: api.ID{19: 1}, Tree: api.ID{1, 2, 3}, Date: -1 << 63}
	b := graph.Node{ID: api.ID{18: 1}, Date: 1<<63 - 1, Parents: []api.ID{a.ID, {}, a.ID}}
	c := graph.Node{}
	l, m, err := checkClosed(t, []graph.Node{b, c, a})
	if !same(l, []graph.Node{c, a, b}) || err != api.OK || m[b.ID] != 2 || m[c.ID] != 1 || len(m) != 3 {
		t.Errorf("%+v, %v, %v", l, m, err)
	}
}

// TestP1901Generations: the generations of some nodes, in any order of them.
func TestP1901Generations(t *testing.T) {
	for _, c := range []struct {
		l    []graph.Node
		want map[int]int
		err  api.Errno
	}{
		{nil, nil, api.OK},
		{[]graph.Node{node(0)}, map[int]int{0: 1}, api.OK},
		{[]graph.Node{node(1, 2), node(2, 3), node(3, 4), node(4)}, map[int]int{4: 1, 3: 2, 2: 3, 1: 4}, api.OK},
		{[]graph.Node{node(1, 2), node(2, 3), node(3, 4)}, map[int]int{3: 1, 2: 2, 1: 3}, api.OK}, // 4 does not count
		{[]graph.Node{node(1, 9, 8), node(2, 7, 1, 6), node(3, 5)}, map[int]int{1: 1, 2: 2, 3: 1}, api.OK},
		{[]graph.Node{node(5, 1, 4), node(4, 3), node(3, 1), node(1), node(2, 1, 5, 3)}, map[int]int{1: 1, 3: 2, 4: 3, 5: 4, 2: 5}, api.OK},
		{[]graph.Node{node(5, 4, 1), node(4, 1, 1), node(1, 6, 6), node(2, 4, 4, 1)}, map[int]int{1: 1, 4: 2, 5: 3, 2: 3}, api.OK},
		{[]graph.Node{node(1), node(1)}, nil, api.ErrExists},
		{[]graph.Node{node(1), node(2), node(1, 2)}, nil, api.ErrExists},
		{[]graph.Node{node(1), node(2, 2), node(1)}, nil, api.ErrExists}, // ahead of ErrLoop
		{[]graph.Node{node(1, 2), node(2, 1), node(2)}, nil, api.ErrExists},
		{[]graph.Node{node(1, 1), node(1, 1)}, nil, api.ErrExists},
		{[]graph.Node{node(1, 1)}, nil, api.ErrLoop},
		{[]graph.Node{node(1, 2), node(2, 1)}, nil, api.ErrLoop},
		{[]graph.Node{node(1, 2), node(2, 3), node(3, 4), node(4, 2, 9), node(5)}, nil, api.ErrLoop},
		{[]graph.Node{node(1, 9), node(2, 9, 1, 2), node(3)}, nil, api.ErrLoop},
	} {
		want := map[api.ID]int{}
		for n, g := range c.want {
			want[id(n)] = g
		}
		orders(c.l, func() {
			if _, m, err := checkClosed(t, c.l); err != c.err || !maps.Equal(m, want) {
				t.Fatalf("%+v: %v, %v", c.l, m, err)
			}
		})
	}
}

// TestP1901All: all ways in which three nodes lead to each other and to one that is not there.
func TestP1901All(t *testing.T) {
	counts := map[api.Errno]int{}
	for ways := range 1 << 12 {
		var l []graph.Node
		for n := range 3 {
			x := node(n)
			for p := range 4 {
				if ways>>(4*n+p)&1 == 1 {
					x.Parents = append(x.Parents, id(p))
				}
			}
			l = append(l, x)
		}
		_, _, err := checkClosed(t, l)
		counts[err]++
		_, err = checkBuild(t, l)
		if ways&0x888 == 0 {
			counts[100+err]++
		}
	}
	// There are 25 graphs of three nodes without a loop; each node of them may lead to the fourth besides.
	if counts[api.OK] != 200 || counts[api.ErrLoop] != 4096-200 || counts[100] != 25 || counts[100+api.ErrLoop] != 512-25 {
		t.Errorf("%v", counts)
	}
}

// line answers n nodes, each with the next one as a parent, in the order of their IDs or in the other one.
func line(n int, turned bool) []graph.Node {
	l := make([]graph.Node, n)
	for i := range l {
		binary.BigEndian.PutUint32(l[i].ID[:], uint32(i))
		if i+1 < n {
			l[i].Parents = make([]api.ID, 1)
			binary.BigEndian.PutUint32(l[i].Parents[0][:], uint32(i+1))
		}
	}
	if turned {
		slices.Reverse(l)
	}
	return l
}

// TestP1901Far: many nodes in a line, in a ring, and around one are worked off in time.
func TestP1901Far(t *testing.T) {
	const many = 30000
	for _, turned := range []bool{false, true} {
		l := line(many, turned)
		m, err := graph.Generations(l)
		if err != api.OK || len(m) != many || m[api.ID{}] != many {
			t.Fatalf("%d generations, %v", len(m), err)
		}
		if closed := graph.Closed(l); len(closed) != many || closed[0].ID != (api.ID{}) || len(closed[0].Parents) != 1 {
			t.Fatalf("%d closed", len(closed))
		}
		last := slices.IndexFunc(l, func(n graph.Node) bool { return len(n.Parents) == 0 })
		l[last].Parents = []api.ID{{3: 9}}
		if m, err := graph.Generations(l); err != api.ErrLoop || len(m) != 0 {
			t.Fatal(err)
		}
		if closed := graph.Closed(l); len(closed) != 0 {
			t.Fatalf("%d closed", len(closed))
		}
		if b, err := graph.Build(l); err != api.ErrLoop || len(b) != 0 {
			t.Fatal(err)
		}
	}
	wide := graph.Node{ID: api.ID{255}}
	l := []graph.Node{wide}
	for _, n := range line(many, false) {
		n.Parents = nil
		l[0].Parents = append(l[0].Parents, n.ID, n.ID)
		l = append(l, n, graph.Node{ID: api.ID{254, n.ID[1], n.ID[2], n.ID[3]}, Parents: []api.ID{{}, wide.ID}})
	}
	m, err := graph.Generations(l)
	if err != api.OK || m[wide.ID] != 2 || m[api.ID{254, 0, 0, 7}] != 3 || len(graph.Closed(l)) != len(l) {
		t.Fatal(err)
	}
}

// someNodes answers nodes that mostly lead to ones of a smaller ID; now and then one comes twice, a parent is not there, or there is a loop.
func someNodes(random *rand.Rand) []graph.Node {
	var l []graph.Node
	for _, n := range random.Perm(random.Intn(12)) {
		x := graph.Node{ID: id(n * 3000), Date: random.Intn(1 << 34)}
		random.Read(x.Tree[:])
		for n > 0 && random.Intn(4) > 0 {
			x.Parents = append(x.Parents, id(random.Intn(n)*3000))
		}
		l = append(l, x)
	}
	for len(l) > 0 && random.Intn(5) == 0 {
		x := &l[random.Intn(len(l))]
		switch random.Intn(6) {
		case 0:
			l = append(l, *x)
		case 1:
			x.Date = []int{-1, 1 << 34, 1<<34 - 1, 0, 1 << 40}[random.Intn(5)]
		default:
			x.Parents = append(x.Parents, id(random.Intn(13)*3000))
		}
	}
	return l
}

// TestP1901Random: some nodes of all kinds.
func TestP1901Random(t *testing.T) {
	random := rand.New(rand.NewSource(1901))
	counts := map[api.Errno]int{}
	part := 0
	for range 20000 {
		l := someNodes(random)
		closed, _, err := checkClosed(t, l)
		counts[err]++
		if len(closed) > 0 && len(closed) < len(l) {
			part++
		}
	}
	if counts[api.OK] < 10000 || counts[api.ErrExists] < 300 || counts[api.ErrLoop] < 300 || part < 1000 {
		t.Errorf("%v, %d", counts, part)
	}
}

// TestP1901ClosedBuilds: of what is closed there is a graph.
func TestP1901ClosedBuilds(t *testing.T) {
	random := rand.New(rand.NewSource(1903))
	for range 3000 {
		l := someNodes(random)
		for i := range l {
			l[i].Date &= 1<<34 - 1
		}
		closed := graph.Closed(l)
		if _, err := checkBuild(t, closed); err != api.OK {
			t.Fatalf("%+v: %v", closed, err)
		}
		if again := graph.Closed(closed); !same(again, closed) {
			t.Fatalf("%+v: %+v", closed, again)
		}
	}
}

// TestP1901New: what is answered is new, and asked again the same.
func TestP1901New(t *testing.T) {
	parents := []api.ID{id(1), id(2), id(9)}
	l := []graph.Node{{ID: id(3), Parents: parents[:2]}, {ID: id(4), Parents: parents[:2]}, node(2), node(1), node(5, 9)}
	was := cloned(l)
	closed := graph.Closed(l)
	m, err := graph.Generations(l)
	if len(closed) != 4 || len(m) != 5 || err != api.OK {
		t.Fatalf("%+v, %v, %v", closed, m, err)
	}
	for i := range closed {
		for k := range closed[i].Parents {
			closed[i].Parents[k] = id(100 + i)
		}
		_ = append(closed[i].Parents, id(200+i))
	}
	for i := range closed {
		if i > 1 && closed[i].Parents[0] != id(100+i) {
			t.Errorf("parents are shared: %+v", closed)
		}
		closed[i] = graph.Node{}
	}
	clear(m)
	if !same(l, was) || parents[2] != id(9) || parents[0] != id(1) {
		t.Errorf("%+v, %v", l, parents)
	}
	if l, m, err := checkClosed(t, l); len(l) != 4 || len(m) != 5 || err != api.OK {
		t.Errorf("%+v, %v, %v", l, m, err)
	}
}
