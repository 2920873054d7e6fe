package chain

import (
	"slices"

	"trove/api"
)

// group is entries that are told together: some that were told just now, and all that may stand on them. Where several make one object the first in order is the base of what names it, however late that one is told. So all objects are made ahead, and an entry is told when it is known which one is the first.
type group struct {
	*resolver
	left   []int            // those that are not told at the beginning
	makers map[key][]int    // those whose object is known, in order, by what they are found by
	takers map[key][]int    // those of left, by what their bases are found by
	lost   map[int]struct{} // those that none of the group can tell
	stack  []int            // those of which it is known what became of them, while what waits for them has not heard of it
}

// spread tells all that the pack's own entries can tell by these, which were told just now and are equally deep.
func (r *resolver) spread(told []int) {
	known, left := r.reach(told)
	if len(left) == 0 {
		return
	}
	g := &group{resolver: r, left: left, makers: map[key][]int{}, takers: map[key][]int{}, lost: map[int]struct{}{}, stack: told}
	for _, n := range known {
		for _, k := range r.keys(n) {
			g.makers[k] = append(g.makers[k], n)
		}
	}
	for _, n := range left {
		k := r.wants(n)
		g.takers[k] = append(g.takers[k], n)
	}
	g.tellAll()
	for _, n := range left {
		if r.waits(n) { // its base may be told yet, by what have has
			r.wait(n)
		}
	}
}

// reach makes the objects of all that may stand on those that are told, and answers what has its object then, in order, and what is not told. It goes from level to level, so that Deep is the least that may be; where even that is too much nothing is made, since nothing can be told by it.
func (r *resolver) reach(told []int) (known, left []int) {
	level := told
	for len(level) > 0 {
		known = append(known, level...)
		var next []int
		for _, base := range level {
			for _, n := range r.release(base) {
				left = append(left, n)
				if r.made[base].Deep < api.MaxChain && r.apply(n, r.made[base]) {
					next = append(next, n)
				}
			}
		}
		level = next
	}
	slices.Sort(known)
	return known, left
}

// release answers the entries that wait for one whose object is known; they are not found by it any more.
func (r *resolver) release(base int) []int {
	var out []int
	for _, k := range r.keys(base) {
		for _, n := range r.waiting[k] {
			if r.waits(n) { // what have has told does not
				out = append(out, n)
			}
		}
		delete(r.waiting, k)
	}
	return out
}

// tellAll tells all of the group that can be told.
func (g *group) tellAll() {
	for {
		g.passOn()
		for len(g.left) > 0 && !g.isOpen(g.left[0]) {
			g.left = g.left[1:]
		}
		if len(g.left) == 0 {
			return
		}
		g.loosen(g.ring(g.wants(g.left[0])))
	}
}

// isOpen tells whether it is not known yet what becomes of entry n.
func (g *group) isOpen(n int) bool {
	_, lost := g.lost[n]
	return g.waits(n) && !lost
}

// passOn tells what waits for those of which it is known what became of them, and so on.
func (g *group) passOn() {
	for len(g.stack) > 0 {
		last := len(g.stack) - 1
		n := g.stack[last]
		g.stack = g.stack[:last]
		for _, k := range g.keys(n) {
			g.serve(k)
		}
	}
}

// serve tells those whose base is found by k, if it is known which one it is.
func (g *group) serve(k key) {
	l := g.makers[k]
	for len(l) > 0 && !g.isTold(l[0]) && !g.isOpen(l[0]) {
		l = l[1:]
	}
	g.makers[k] = l
	if len(l) > 0 && g.isOpen(l[0]) {
		return
	}
	for _, n := range g.takers[k] {
		switch {
		case !g.isOpen(n):
		case len(l) == 0:
			g.lose(n)
		default:
			g.settle(n, l[0])
		}
	}
	delete(g.takers, k)
}

// settle tells entry n by its base, or finds it wrong.
func (g *group) settle(n, base int) {
	g.tell(n, g.made[base])
	g.stack = append(g.stack, n)
}

// lose gives entry n up.
func (g *group) lose(n int) {
	g.lost[n] = struct{}{}
	g.stack = append(g.stack, n)
}

// ahead answers the entries that those whose base is found by k wait for: the open ones ahead of the first that is told; and that one, or -1.
func (g *group) ahead(k key) (open []int, told int) {
	for _, n := range g.makers[k] {
		if g.isTold(n) {
			return open, n
		}
		if g.isOpen(n) {
			open = append(open, n)
		}
	}
	return open, -1
}

// ring answers keys of entries that wait for one another and for no others: it follows what is waited for, from k on, and is at its end where that leads to nothing new. (No key's way ends elsewhere: one that waits for no open entry has been served.)
func (g *group) ring(k key) []key {
	type part struct{ first, rest int } // keys that wait for one another: where they begin in met, and how many to follow are not theirs
	var met []key
	var parts []part
	at := map[key]int{} // of each that is met its place
	follow := []key{k}
	for len(parts) == 0 || len(follow) > parts[len(parts)-1].rest {
		last := len(follow) - 1
		next := follow[last]
		follow = follow[:last]
		if n, is := at[next]; is {
			for parts[len(parts)-1].first > n {
				parts = parts[:len(parts)-1]
			}
			continue
		}
		at[next] = len(met)
		parts = append(parts, part{len(met), last})
		met = append(met, next)
		open, _ := g.ahead(next)
		for _, n := range open {
			follow = append(follow, g.wants(n))
		}
	}
	return met[parts[len(parts)-1].first:]
}

// loosen tells one of the entries of a ring, the first that has a base that is told: it cannot wait for what waits for it. If there is none, the ring's entries are lost.
func (g *group) loosen(ring []key) {
	var all []int
	told := map[key]int{}
	for _, k := range ring {
		open, first := g.ahead(k)
		all = append(all, open...)
		if first >= 0 {
			told[k] = first
		}
	}
	slices.Sort(all)
	for _, n := range all {
		if base, is := told[g.wants(n)]; is {
			g.settle(n, base)
			return
		}
	}
	for _, n := range all {
		g.lose(n)
	}
}
