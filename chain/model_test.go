package chain_test

import (
	"bytes"
	"crypto/sha1"
	"math/rand"
	"slices"
	"testing"

	"trove/api"
	"trove/chain"
	"trove/delta"
	"trove/entry"
	"trove/object"
	"trove/pack"
)

type haver = func(id api.ID) (int, []byte, bool)

// whole: an object under its name, by no delta.
func whole(kind int, s string) chain.Object {
	return chain.Object{ID: object.ID(kind, []byte(s)), Kind: kind, Data: []byte(s)}
}

func id(s string) api.ID { return whole(api.Blob, s).ID }

func blob(s string) entry.Entry { return entry.Entry{Kind: api.Blob, Data: []byte(s)} }

func by(from, to string) []byte { return delta.Make([]byte(from), []byte(to), 1) }

// ofs: a delta whose base, from, is so many entries ahead.
func ofs(back int, from, to string) entry.Entry {
	return entry.Entry{Kind: entry.Ofs, Back: back, Data: by(from, to)}
}

// ref: a delta whose base is the blob from, wherever it is.
func ref(from, to string) entry.Entry {
	return entry.Entry{Kind: entry.Ref, Base: id(from), Data: by(from, to)}
}

// refTo: a delta by name whose base is the blob from, with steps of its own.
func refTo(from string, d []byte) entry.Entry {
	return entry.Entry{Kind: entry.Ref, Base: id(from), Data: d}
}

func none(api.ID) (int, []byte, bool) { return 0, nil, false }

// holding: one that has just these, each time in memory of their own.
func holding(l ...chain.Object) haver {
	return func(id api.ID) (int, []byte, bool) {
		for _, o := range l {
			if o.ID == id {
				return o.Kind, bytes.Clone(o.Data), true
			}
		}
		return 0, nil, false
	}
}

// blobs: one that has just the blobs of these bytes.
func blobs(l ...string) haver {
	var all []chain.Object
	for _, s := range l {
		all = append(all, whole(api.Blob, s))
	}
	return holding(all...)
}

// packed answers the bytes of a pack, of which Back is in entries.
func packed(t testing.TB, l ...entry.Entry) []byte {
	t.Helper()
	b, _, err := pack.Write(l, 1)
	if err != api.OK {
		t.Fatalf("pack.Write(%d entries): %v", len(l), err)
	}
	return b
}

// read answers entries as pack.Read tells them.
func read(t testing.TB, l ...entry.Entry) []entry.Entry {
	t.Helper()
	l, err := pack.Read(packed(t, l...))
	if err != api.OK {
		t.Fatalf("pack.Read: %v", err)
	}
	return l
}

// resealed answers b with its last twenty bytes made right.
func resealed(b []byte) []byte {
	id := sha1.Sum(b[:len(b)-20])
	return slices.Concat(b[:len(b)-20], id[:])
}

func sameObject(a, b chain.Object) bool {
	return a.ID == b.ID && a.Kind == b.Kind && bytes.Equal(a.Data, b.Data) && a.Deep == b.Deep
}

func sameObjects(a, b []chain.Object) bool { return slices.EqualFunc(a, b, sameObject) }

// slow tells one entry at a time, and looks at all of them anew each time.
type slow struct {
	l       []entry.Entry
	told    map[int]chain.Object
	wrong   map[int]api.Errno
	outside []api.ID
}

// base answers the base that entry n has among what is told.
func (s *slow) base(n int) (chain.Object, bool) {
	e := s.l[n]
	for k := range s.l {
		o, told := s.told[k]
		switch {
		case !told:
		case e.Kind == 6 && e.Back > 0 && s.l[k].At == e.At-e.Back, e.Kind == 7 && o.ID == e.Base:
			return o, true
		}
	}
	return chain.Object{}, false
}

func (s *slow) open(n int) bool {
	_, told := s.told[n]
	_, wrong := s.wrong[n]
	return !told && !wrong
}

func (s *slow) tell(n int, base chain.Object) {
	if base.Deep >= 16 {
		s.wrong[n] = api.ErrLong
		return
	}
	data, err := delta.Apply(base.Data, s.l[n].Data, 16384)
	if err != api.OK {
		s.wrong[n] = err
		return
	}
	s.told[n] = chain.Object{ID: object.ID(base.Kind, data), Kind: base.Kind, Data: data, Deep: base.Deep + 1}
}

// step tells one entry, or finds one wrong: by the pack's own, if that goes.
func (s *slow) step(have haver) bool {
	for n, e := range s.l {
		if !s.open(n) {
			continue
		}
		if e.Kind != 6 && e.Kind != 7 {
			s.told[n] = chain.Object{ID: object.ID(e.Kind, e.Data), Kind: e.Kind, Data: e.Data}
			return true
		}
		if base, is := s.base(n); is {
			s.tell(n, base)
			return true
		}
	}
	for n, e := range s.l {
		if have == nil || e.Kind != 7 || !s.open(n) {
			continue
		}
		if kind, data, has := have(e.Base); has {
			s.tell(n, chain.Object{Kind: kind, Data: data})
			s.outside = append(s.outside, e.Base)
			return true
		}
	}
	return false
}

// slowResolve answers also whether two entries that are told have one name: then which of them is a base tells no more than which error it is.
func slowResolve(l []entry.Entry, have haver) (out []chain.Object, bases []api.ID, err api.Errno, twice bool) {
	s := &slow{l: l, told: map[int]chain.Object{}, wrong: map[int]api.Errno{}}
	for s.step(have) {
	}
	for n := range l {
		for k := range n {
			a, aTold := s.told[n]
			b, bTold := s.told[k]
			twice = twice || aTold && bTold && a.ID == b.ID
		}
	}
	for n := range l {
		o, told := s.told[n]
		switch wrong, is := s.wrong[n]; {
		case is:
			return nil, nil, wrong, twice
		case !told:
			return nil, nil, api.ErrNone, twice
		}
		out = append(out, o)
	}
	for _, o := range out {
		if twice || object.Check(o.Kind, o.Data) != api.OK {
			return nil, nil, api.ErrForm, twice
		}
	}
	for _, id := range s.outside {
		at, is := slices.BinarySearchFunc(bases, id, func(a, b api.ID) int { return bytes.Compare(a[:], b[:]) })
		if !is {
			bases = slices.Insert(bases, at, id)
		}
	}
	return out, bases, api.OK, twice
}

// checkResolve holds Resolve against the model, and answers what it told.
func checkResolve(t testing.TB, l []entry.Entry, have haver) ([]chain.Object, []api.ID, api.Errno) {
	t.Helper()
	got, bases, err := chain.Resolve(l, have)
	want, wantBases, wantErr, twice := slowResolve(l, have)
	if deep := twice && (err == api.ErrLong || wantErr == api.ErrLong); err != wantErr && (!deep || err == api.OK) {
		t.Fatalf("Resolve(%+v): %v, not %v", l, err, wantErr)
	}
	if !sameObjects(got, want) || !slices.Equal(bases, wantBases) {
		t.Fatalf("Resolve(%+v): %+v, %x, not %+v, %x", l, got, bases, want, wantBases)
	}
	return got, bases, err
}

// checkDenote holds Denote against pack.Read and the model, and answers what it told.
func checkDenote(t testing.TB, b []byte, have haver) ([]chain.Object, []api.ID, api.Errno) {
	t.Helper()
	got, bases, err := chain.Denote(b, have)
	l, wantErr := pack.Read(b)
	if wantErr != api.OK {
		if len(got) != 0 || len(bases) != 0 || err != wantErr {
			t.Fatalf("Denote(%x): %d objects, %d bases, %v, not %v", b, len(got), len(bases), err, wantErr)
		}
		return nil, nil, err
	}
	want, wantBases, wantErr := checkResolve(t, l, have)
	if !sameObjects(got, want) || !slices.Equal(bases, wantBases) || err != wantErr {
		t.Fatalf("Denote(%x): %+v, %x, %v, not %+v, %x, %v", b, got, bases, err, want, wantBases, wantErr)
	}
	return got, bases, err
}

// told demands that these entries make blobs of these bytes, by so many deltas, and that these were the bases from outside.
func told(t testing.TB, what string, l []entry.Entry, have haver, texts []string, deep []int, outside ...string) {
	t.Helper()
	got, bases, err := checkDenote(t, packed(t, l...), have)
	var want []chain.Object
	for i, s := range texts {
		o := whole(api.Blob, s)
		o.Deep = deep[i]
		want = append(want, o)
	}
	var ids []api.ID
	for _, s := range outside {
		ids = append(ids, id(s))
	}
	slices.SortFunc(ids, func(a, b api.ID) int { return bytes.Compare(a[:], b[:]) })
	if !sameObjects(got, want) || !slices.Equal(bases, ids) || err != api.OK {
		t.Errorf("%s: %+v, %x, %v, not %+v, %x", what, got, bases, err, want, ids)
	}
}

// wrong demands that Resolve and Denote answer this error of these entries.
func wrong(t testing.TB, what string, have haver, want api.Errno, l ...entry.Entry) {
	t.Helper()
	got, bases, err := checkDenote(t, packed(t, l...), have)
	if len(got) != 0 || len(bases) != 0 || err != want {
		t.Errorf("%s: %d objects, %d bases, %v, not %v", what, len(got), len(bases), err, want)
	}
}

// noise: random bytes of so many letters.
func noise(random *rand.Rand, n, letters int) []byte {
	b := make([]byte, n)
	for k := range b {
		b[k] = byte(random.Intn(letters))
	}
	return b
}

// spoil writes over a list and its spare room.
func spoil(b []byte) {
	for k := range b[:cap(b)] {
		b[:cap(b)][k] = '#'
	}
}
