package chain

import (
	"bytes"
	"slices"

	"trove/api"
	"trove/delta"
	"trove/entry"
	"trove/object"
)

// resolver tells the entries of a pack, each by its base.
type resolver struct {
	l       []entry.Entry
	told    []Object         // of each entry that is told its object
	faults  []api.Errno      // of each entry; one that waits for its base has ErrNone, since it may wait in vain
	byPlace map[int][]int    // the entries whose base begins at a place
	byName  map[api.ID][]int // the entries whose base has a name
	stack   []int            // the entries that are told, while what has them as its base is not yet
	outside []api.ID         // the bases that were no entries
}

// newResolver answers one that has told the whole objects alone.
func newResolver(l []entry.Entry) *resolver {
	r := &resolver{
		l:       l,
		told:    make([]Object, len(l)),
		faults:  slices.Repeat([]api.Errno{api.ErrNone}, len(l)),
		byPlace: map[int][]int{},
		byName:  map[api.ID][]int{},
	}
	for n, e := range l {
		switch {
		case e.Kind == entry.Ref:
			r.byName[e.Base] = append(r.byName[e.Base], n)
		case e.Kind != entry.Ofs:
			r.put(n, Object{Kind: e.Kind, Data: bytes.Clone(e.Data)})
		case e.Back >= 1: // an entry that has less is none of pack.Read's, and has no base
			r.byPlace[e.At-e.Back] = append(r.byPlace[e.At-e.Back], n)
		}
	}
	return r
}

// put tells entry n.
func (r *resolver) put(n int, o Object) {
	o.ID = object.ID(o.Kind, o.Data)
	r.told[n], r.faults[n] = o, api.OK
	r.stack = append(r.stack, n)
}

// waits tells whether entry n has neither been told yet nor found wrong.
func (r *resolver) waits(n int) bool { return r.faults[n] == api.ErrNone }

// tell tells entry n by its base, or finds it wrong.
func (r *resolver) tell(n int, base Object) {
	deep := base.Deep + 1
	if deep > api.MaxChain {
		r.faults[n] = api.ErrLong
		return
	}
	data, err := delta.Apply(base.Data, r.l[n].Data, api.MaxObject)
	if err != api.OK {
		r.faults[n] = err
		return
	}
	r.put(n, Object{Kind: base.Kind, Data: data, Deep: deep})
}

// tellAll tells those of the entries that wait: one of them may have been told by what have has.
func (r *resolver) tellAll(entries []int, base Object) {
	for _, n := range entries {
		if r.waits(n) {
			r.tell(n, base)
		}
	}
}

// spread tells all that the pack's own entries can tell.
func (r *resolver) spread() {
	for len(r.stack) > 0 {
		last := len(r.stack) - 1
		at, base := r.l[r.stack[last]].At, r.told[r.stack[last]]
		r.stack = r.stack[:last]
		r.tellAll(r.byPlace[at], base)
		r.tellAll(r.byName[base.ID], base)
		delete(r.byPlace, at) // no more of them wait, however many entries have one place or one name
		delete(r.byName, base.ID)
	}
}

// tellBy tells by what have has the entries that still wait, in order, and by each at once what the pack's own can tell then. It need not begin anew: what have did not have ahead it has not now.
func (r *resolver) tellBy(have func(id api.ID) (int, []byte, bool)) {
	for n, e := range r.l {
		if e.Kind != entry.Ref || !r.waits(n) {
			continue
		}
		kind, data, has := have(e.Base)
		if !has {
			continue
		}
		r.tell(n, Object{Kind: kind, Data: data})
		r.outside = append(r.outside, e.Base)
		r.spread()
	}
}

// fault answers what is wrong: with an entry, or else with what the entries are.
func (r *resolver) fault() api.Errno {
	for _, err := range r.faults {
		if err != api.OK {
			return err
		}
	}
	names := map[api.ID]struct{}{}
	for _, o := range r.told {
		if object.Check(o.Kind, o.Data) != api.OK {
			return api.ErrForm
		}
		names[o.ID] = struct{}{}
	}
	if len(names) < len(r.told) {
		return api.ErrForm
	}
	return api.OK
}
