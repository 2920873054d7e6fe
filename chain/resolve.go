package chain

import (
	"bytes"
	"slices"

	"trove/api"
	"trove/delta"
	"trove/entry"
	"trove/object"
)

// key is what a base is found by: the place where it begins, or its name.
type key struct {
	place int
	named bool
	name  api.ID
}

// resolver tells the entries of a pack, each by its base.
type resolver struct {
	l       []entry.Entry
	made    []Object      // of each entry its object, as soon as that is known; Deep is the least that may be, until it is told
	applied []api.Errno   // of each entry that may be told what delta.Apply answered
	faults  []api.Errno   // of each entry; one that waits for its base has ErrNone, since it may wait in vain
	waiting map[key][]int // the entries whose base is found by a key
	outside []api.ID      // the bases that were no entries
}

// newResolver answers one that has told the whole objects alone, and these.
func newResolver(l []entry.Entry) (*resolver, []int) {
	r := &resolver{
		l:       l,
		made:    make([]Object, len(l)),
		applied: make([]api.Errno, len(l)),
		faults:  slices.Repeat([]api.Errno{api.ErrNone}, len(l)),
		waiting: map[key][]int{},
	}
	var wholes []int
	for n, e := range l {
		switch {
		case e.Kind != entry.Ofs && e.Kind != entry.Ref:
			r.put(n, Object{Kind: e.Kind, Data: bytes.Clone(e.Data)})
			r.faults[n] = api.OK
			wholes = append(wholes, n)
		case e.Kind == entry.Ref || e.Back >= 1: // an Ofs that has less is none of pack.Read's, and has no base
			r.wait(n)
		}
	}
	return r, wholes
}

// put keeps the object of entry n.
func (r *resolver) put(n int, o Object) {
	o.ID = object.ID(o.Kind, o.Data)
	r.made[n] = o
}

// wants answers the key of entry n's base.
func (r *resolver) wants(n int) key {
	e := r.l[n]
	if e.Kind == entry.Ofs {
		return key{place: e.At - e.Back}
	}
	return key{named: true, name: e.Base}
}

// keys answers what entry n, whose object is known, is found by.
func (r *resolver) keys(n int) [2]key {
	return [2]key{{place: r.l[n].At}, {named: true, name: r.made[n].ID}}
}

// wait lets entry n be found by the key of its base.
func (r *resolver) wait(n int) {
	k := r.wants(n)
	r.waiting[k] = append(r.waiting[k], n)
}

// waits tells whether entry n has neither been told yet nor found wrong.
func (r *resolver) waits(n int) bool { return r.faults[n] == api.ErrNone }

// isTold tells whether entry n has been told.
func (r *resolver) isTold(n int) bool { return r.faults[n] == api.OK }

// apply makes the object of entry n, or answers false.
func (r *resolver) apply(n int, base Object) bool {
	data, err := delta.Apply(base.Data, r.l[n].Data, api.MaxObject)
	r.applied[n] = err
	if err != api.OK {
		return false
	}
	r.put(n, Object{Kind: base.Kind, Data: data, Deep: base.Deep + 1})
	return true
}

// tell tells entry n, whose object was made, by its base, or finds it wrong.
func (r *resolver) tell(n int, base Object) {
	r.faults[n] = r.applied[n]
	r.made[n].Deep = base.Deep + 1
	if base.Deep >= api.MaxChain {
		r.faults[n] = api.ErrLong
	}
}

// tellBy tells by what have has the entries that still wait, in order, and by each at once what the pack's own can tell then. It need not begin anew: what have did not have ahead it has not now.
func (r *resolver) tellBy(have func(id api.ID) (int, []byte, bool)) {
	for n, e := range r.l {
		if e.Kind != entry.Ref || !r.waits(n) {
			continue
		}
		kind, data, has := have(e.Base)
		if !has {
			continue
		}
		r.outside = append(r.outside, e.Base)
		base := Object{Kind: kind, Data: data}
		r.apply(n, base)
		r.tell(n, base)
		if r.isTold(n) {
			r.spread([]int{n})
		}
	}
}

// fault answers what is wrong: with an entry, or else with what the entries are.
func (r *resolver) fault() api.Errno {
	for _, err := range r.faults {
		if err != api.OK {
			return err
		}
	}
	names := map[api.ID]struct{}{}
	for _, o := range r.made {
		if object.Check(o.Kind, o.Data) != api.OK {
			return api.ErrForm
		}
		names[o.ID] = struct{}{}
	}
	if len(names) < len(r.made) {
		return api.ErrForm
	}
	return api.OK
}
