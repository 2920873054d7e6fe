package chain_test

import (
	"bytes"
	"crypto/sha1"
	"math/rand"
	"slices"
	"testing"

	"trove/api"
	"trove/chain"
	"trove/delta"
	"trove/entry"
	"trove/object"
	"trove/pack"
)

type haver = func(id api.ID) (int, []byte, bool)

// whole: an object under its name, by no delta.
func whole(kind int, s string) chain.Object {
	return chain.Object{ID: object.ID(kind, []byte(s)), Kind: kind, Data: []byte(s)}
}

func id(s string) api.ID { return whole(api.Blob, s).ID }

func blob(s string) entry.Entry { return entry.Entry{Kind: api.Blob, Data: []byte(s)} }

func by(from, to string) []byte { return delta.Make([]byte(from), []byte(to), 1) }

// ofs: a delta whose base, from, is so many entries ahead.
func ofs(back int, from, to string) entry.Entry {
	return entry.Entry{Kind: entry.Ofs, Back: back, Data: by(from, to)}
}

// ref: a delta whose base is the blob from, wherever it is.
func ref(from, to string) entry.Entry {
	return entry.Entry{Kind: entry.Ref, Base: id(from), Data: by(from, to)}
}

// refTo: a delta by name whose base is the blob from, with steps of its own.
func refTo(from string, d []byte) entry.Entry {
	return entry.Entry{Kind: entry.Ref, Base: id(from), Data: d}
}

func none(api.ID) (int, []byte, bool) { return 0, nil, false }

// holding: one that has just these, each time in memory of their own.
func holding(l ...chain.Object) haver {
	return func(id api.ID) (int, []byte, bool) {
		for _, o := range l {
			if o.ID == id {
				return o.Kind, bytes.Clone(o.Data), true
			}
		}
		return 0, nil, false
	}
}

// blobs: one that has just the blobs of these bytes.
func blobs(l ...string) haver {
	var all []chain.Object
	for _, s := range l {
		all = append(all, whole(api.Blob, s))
	}
	return holding(all...)
}

// packed answers the bytes of a pack, of which Back is in entries.
func packed(t testing.TB, l ...entry.Entry) []byte {
	t.Helper()
	b, _, err := pack.Write(l, 1)
	if err != api.OK {
		t.Fatalf("pack.Write(%d entries): %v", len(l), err)
	}
	return b
}

// read answers entries as pack.Read tells them.
func read(t testing.TB, l ...entry.Entry) []entry.Entry {
	t.Helper()
	l, err := pack.Read(packed(t, l...))
	if err != api.OK {
		t.Fatalf("pack.Read: %v", err)
	}
	return l
}

// resealed answers b with its last twenty bytes made right.
func resealed(b []byte) []byte {
	id := sha1.Sum(b[:len(b)-20])
	return slices.Concat(b[:len(b)-20], id[:])
}

func sameObject(a, b chain.Object) bool {
	return a.ID == b.ID && a.Kind == b.Kind && bytes.Equal(a.Data, b.Data) && a.Deep == b.Deep
}

func sameObjects(a, b []chain.Object) bool { return slices.EqualFunc(a, b, sameObject) }

// slow tells one entry at a time, and looks at all of them anew each time.
type slow struct {
	l       []entry.Entry
	told    map[int]chain.Object
	wrong   map[int]api.Errno
	outside []api.ID
	bases   [][]int // of each entry those that may be its base as long as have is not asked again, in order
	lost    map[int]bool
}

func (s *slow) isOpen(n int) bool {
	_, told := s.told[n]
	_, wrong := s.wrong[n]
	return !told && !wrong && !s.lost[n]
}

// isBase: whether entry k, which makes the object of that name, is what entry n waits for.
func (s *slow) isBase(k int, id api.ID, n int) bool {
	e := &s.l[n]
	return e.Kind == 6 && e.Back > 0 && s.l[k].At == e.At-e.Back || e.Kind == 7 && id == e.Base
}

// look finds what each open entry may be told by: it makes all objects that there may be by at most 16 deltas.
func (s *slow) look() {
	s.lost = map[int]bool{}
	made, levels := make([]*chain.Object, len(s.l)), make([][]int, 17)
	for n := range s.l {
		if o, told := s.told[n]; told {
			made[n] = &o
			levels[o.Deep] = append(levels[o.Deep], n)
		}
	}
	for deep := range 16 {
		for n := range s.l {
			if made[n] != nil || !s.isOpen(n) {
				continue
			}
			at := slices.IndexFunc(levels[deep], func(k int) bool { return s.isBase(k, made[k].ID, n) })
			if at < 0 {
				continue
			}
			base := made[levels[deep][at]]
			if data, err := delta.Apply(base.Data, s.l[n].Data, 16384); err == api.OK {
				made[n] = &chain.Object{ID: object.ID(base.Kind, data), Kind: base.Kind, Data: data, Deep: deep + 1}
				levels[deep+1] = append(levels[deep+1], n)
			}
		}
	}
	s.bases = make([][]int, len(s.l))
	for n := range s.l {
		for k := 0; k < len(s.l) && s.isOpen(n); k++ {
			if made[k] != nil && s.isBase(k, made[k].ID, n) {
				s.bases[n] = append(s.bases[n], k)
			}
		}
	}
}

func (s *slow) tell(n int, base chain.Object) {
	if base.Deep >= 16 {
		s.wrong[n] = api.ErrLong
		return
	}
	data, err := delta.Apply(base.Data, s.l[n].Data, 16384)
	if err != api.OK {
		s.wrong[n] = err
		return
	}
	s.told[n] = chain.Object{ID: object.ID(base.Kind, data), Kind: base.Kind, Data: data, Deep: base.Deep + 1}
}

// ahead answers the open ones that n waits for, and the first told one behind them (-1: none).
func (s *slow) ahead(n int) (open []int, told int) {
	for _, k := range s.bases[n] {
		if _, is := s.told[k]; is {
			return open, k
		}
		if s.isOpen(k) {
			open = append(open, k)
		}
	}
	return open, -1
}

// step tells one entry whose first base is known, or gives one up that has none.
func (s *slow) step() bool {
	for n := range s.l {
		if !s.isOpen(n) {
			continue
		}
		open, told := s.ahead(n)
		switch {
		case len(open) > 0:
			continue
		case told < 0:
			s.lost[n] = true
		default:
			s.tell(n, s.told[told])
		}
		return true
	}
	return false
}

// behind: all that n waits for, one by the other.
func (s *slow) behind(n int) map[int]bool {
	all := map[int]bool{}
	for todo := []int{n}; len(todo) > 0; todo = todo[1:] {
		open, _ := s.ahead(todo[0])
		for _, k := range open {
			if !all[k] {
				all[k] = true
				todo = append(todo, k)
			}
		}
	}
	return all
}

// loosen tells one entry of those that wait for one another alone, or gives them up.
func (s *slow) loosen() bool {
	behind := map[int]map[int]bool{}
	for n := range s.l {
		if s.isOpen(n) {
			behind[n] = s.behind(n)
		}
	}
	var rings []int
	for n := range s.l {
		in := s.isOpen(n)
		for k := range behind[n] {
			in = in && behind[k][n]
		}
		if in {
			rings = append(rings, n)
		}
	}
	for _, n := range rings {
		if _, told := s.ahead(n); told >= 0 {
			s.tell(n, s.told[told])
			return true
		}
	}
	for _, n := range rings {
		s.lost[n] = true
	}
	return len(rings) > 0
}

// ask tells one entry by what have has.
func (s *slow) ask(have haver) bool {
	s.lost = nil
	for n, e := range s.l {
		if have == nil || e.Kind != 7 || !s.isOpen(n) {
			continue
		}
		if kind, data, has := have(e.Base); has {
			s.tell(n, chain.Object{Kind: kind, Data: data})
			s.outside = append(s.outside, e.Base)
			return true
		}
	}
	return false
}

// run tells all that can be told: by the pack's own, and only then by what have has, one by one.
func (s *slow) run(have haver) {
	for n, e := range s.l {
		if e.Kind != 6 && e.Kind != 7 {
			s.told[n] = chain.Object{ID: object.ID(e.Kind, e.Data), Kind: e.Kind, Data: e.Data}
		}
	}
	for more := true; more; more = s.ask(have) {
		s.look()
		for s.step() || s.loosen() {
		}
	}
}

func slowResolve(l []entry.Entry, have haver) (out []chain.Object, bases []api.ID, err api.Errno) {
	s := &slow{l: l, told: map[int]chain.Object{}, wrong: map[int]api.Errno{}}
	s.run(have)
	names := map[api.ID]bool{}
	for n := range l {
		o, told := s.told[n]
		switch wrong, is := s.wrong[n]; {
		case is:
			return nil, nil, wrong
		case !told:
			return nil, nil, api.ErrNone
		}
		out = append(out, o)
		names[o.ID] = true
	}
	for _, o := range out {
		if len(names) < len(out) || object.Check(o.Kind, o.Data) != api.OK {
			return nil, nil, api.ErrForm
		}
	}
	for _, id := range s.outside {
		at, is := slices.BinarySearchFunc(bases, id, func(a, b api.ID) int { return bytes.Compare(a[:], b[:]) })
		if !is {
			bases = slices.Insert(bases, at, id)
		}
	}
	return out, bases, api.OK
}

// checkResolve holds Resolve against the model, and answers what it told.
func checkResolve(t testing.TB, l []entry.Entry, have haver) ([]chain.Object, []api.ID, api.Errno) {
	t.Helper()
	got, bases, err := chain.Resolve(l, have)
	want, wantBases, wantErr := slowResolve(l, have)
	if !sameObjects(got, want) || !slices.Equal(bases, wantBases) || err != wantErr {
		t.Fatalf("Resolve(%+v): %+v, %x, %v, not %+v, %x, %v", l, got, bases, err, want, wantBases, wantErr)
	}
	return got, bases, err
}

// checkDenote holds Denote against pack.Read and the model, and answers what it told.
func checkDenote(t testing.TB, b []byte, have haver) ([]chain.Object, []api.ID, api.Errno) {
	t.Helper()
	got, bases, err := chain.Denote(b, have)
	l, wantErr := pack.Read(b)
	if wantErr != api.OK {
		if len(got) != 0 || len(bases) != 0 || err != wantErr {
			t.Fatalf("Denote(%x): %d objects, %d bases, %v, not %v", b, len(got), len(bases), err, wantErr)
		}
		return nil, nil, err
	}
	want, wantBases, wantErr := checkResolve(t, l, have)
	if !sameObjects(got, want) || !slices.Equal(bases, wantBases) || err != wantErr {
		t.Fatalf("Denote(%x): %+v, %x, %v, not %+v, %x, %v", b, got, bases, err, want, wantBases, wantErr)
	}
	return got, bases, err
}

// told demands that these entries make blobs of these bytes, by so many deltas, and that these were the bases from outside.
func told(t testing.TB, what string, l []entry.Entry, have haver, texts []string, deep []int, outside ...string) {
	t.Helper()
	got, bases, err := checkDenote(t, packed(t, l...), have)
	var want []chain.Object
	for i, s := range texts {
		o := whole(api.Blob, s)
		o.Deep = deep[i]
		want = append(want, o)
	}
	var ids []api.ID
	for _, s := range outside {
		ids = append(ids, id(s))
	}
	slices.SortFunc(ids, func(a, b api.ID) int { return bytes.Compare(a[:], b[:]) })
	if !sameObjects(got, want) || !slices.Equal(bases, ids) || err != api.OK {
		t.Errorf("%s: %+v, %x, %v, not %+v, %x", what, got, bases, err, want, ids)
	}
}

// wrong demands that Resolve and Denote answer this error of these entries.
func wrong(t testing.TB, what string, have haver, want api.Errno, l ...entry.Entry) {
	t.Helper()
	got, bases, err := checkDenote(t, packed(t, l...), have)
	if len(got) != 0 || len(bases) != 0 || err != want {
		t.Errorf("%s: %d objects, %d bases, %v, not %v", what, len(got), len(bases), err, want)
	}
}

// noise: random bytes of so many letters.
func noise(random *rand.Rand, n, letters int) []byte {
	b := make([]byte, n)
	for k := range b {
		b[k] = byte(random.Intn(letters))
	}
	return b
}

// spoil writes over a list and its spare room.
func spoil(b []byte) {
	for k := range b[:cap(b)] {
		b[:cap(b)][k] = '#'
	}
}
