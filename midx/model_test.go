package midx_test

import (
	"bytes"
	"crypto/sha1"
	"encoding/binary"
	"encoding/hex"
	"maps"
	"regexp"
	"slices"
	"testing"

	"trove/api"
	"trove/idx"
	"trove/midx"
)

// sealed answers b and its sum behind it.
func sealed(b []byte) []byte {
	id := sha1.Sum(b)
	return slices.Concat(b, id[:])
}

// resealed answers b with its last twenty bytes made right.
func resealed(b []byte) []byte { return sealed(b[:len(b)-20]) }

// set answers b with the number v of four bytes at a place, and the sum made right.
func set(b []byte, at int, v uint32) []byte {
	out := bytes.Clone(b)
	binary.BigEndian.PutUint32(out[at:], v)
	return resealed(out)
}

// told is what an index tells of an ID.
type told struct {
	id       api.ID
	pack, at uint32
}

// laid answers the bytes of names and IDs as they stand, whether they may be or not.
func laid(names []string, l []told) []byte {
	var chunks [4][]byte
	for _, s := range names {
		chunks[0] = append(append(chunks[0], s...), 0)
	}
	for len(chunks[0])%4 != 0 {
		chunks[0] = append(chunks[0], 0)
	}
	for first := range 256 {
		n := 0
		for _, x := range l {
			if int(x.id[0]) <= first {
				n++
			}
		}
		chunks[1] = binary.BigEndian.AppendUint32(chunks[1], uint32(n))
	}
	for _, x := range l {
		chunks[2] = append(chunks[2], x.id[:]...)
		chunks[3] = binary.BigEndian.AppendUint32(chunks[3], x.pack)
		chunks[3] = binary.BigEndian.AppendUint32(chunks[3], x.at)
	}
	b := binary.BigEndian.AppendUint32([]byte{77, 73, 68, 88, 1, 1, 4, 0}, uint32(len(names)))
	at := uint64(72)
	for i, letters := range []string{"PNAM", "OIDF", "OIDL", "OOFF"} {
		b = binary.BigEndian.AppendUint64(append(b, letters...), at)
		at += uint64(len(chunks[i]))
	}
	b = binary.BigEndian.AppendUint64(append(b, 0, 0, 0, 0), at)
	return sealed(slices.Concat(b, chunks[0], chunks[1], chunks[2], chunks[3]))
}

var nameForm = regexp.MustCompile(`\Apack-[0-9a-f]{40}\.idx\z`)

// slowArg tells whether something of the packs may not be: each is held against all others.
func slowArg(packs []midx.Pack) bool {
	for i, p := range packs {
		if !nameForm.MatchString(p.Name) {
			return true
		}
		for _, other := range packs[:i] {
			if other.Name == p.Name {
				return true
			}
		}
		seen := map[api.ID]bool{}
		for _, r := range p.Rows {
			if r.At < 0 || r.At > 2147483647 || seen[r.ID] {
				return true
			}
			seen[r.ID] = true
		}
	}
	return false
}

// slowBuild takes the packs from the last name to the first, so that what the first ones have is told last, and stays.
func slowBuild(packs []midx.Pack) ([]byte, api.Errno) {
	if slowArg(packs) {
		return nil, api.ErrArg
	}
	byName := map[string][]idx.Row{}
	for _, p := range packs {
		byName[p.Name] = p.Rows
	}
	names := slices.Sorted(maps.Keys(byName))
	all := map[string]told{}
	for i := len(names) - 1; i >= 0; i-- {
		for _, r := range byName[names[i]] {
			all[hex.EncodeToString(r.ID[:])] = told{r.ID, uint32(i), uint32(r.At)}
		}
	}
	if len(packs) > 64 || len(all) > 2048 {
		return nil, api.ErrLong
	}
	var l []told
	for _, s := range slices.Sorted(maps.Keys(all)) {
		l = append(l, all[s])
	}
	return laid(names, l), api.OK
}

// slowOpen asks one thing after the other of the bytes where they stand, and makes none anew.
func slowOpen(b []byte) ([]string, []told, api.Errno) {
	switch {
	case len(b) > 262144:
		return nil, nil, api.ErrLong
	case len(b) < 20:
		return nil, nil, api.ErrShort
	case len(b) < 32 || !bytes.Equal(b[:8], []byte("MIDX\x01\x01\x04\x00")):
		return nil, nil, api.ErrForm
	case !bytes.Equal(resealed(b), b):
		return nil, nil, api.ErrSum
	}
	four := func(at int) uint32 { return binary.BigEndian.Uint32(b[at:]) }
	packs := int(four(8))
	fan := 72 + (packs*50+3)/4*4 // where the fanout begins
	if packs > 64 || fan+1024+20 > len(b) {
		return nil, nil, api.ErrForm
	}
	n := (len(b) - fan - 1024 - 20) / 28
	if n > 2048 || len(b) != fan+1024+28*n+20 {
		return nil, nil, api.ErrForm
	}
	names, is := slowNames(b[72:fan], packs)
	if !is {
		return nil, nil, api.ErrForm
	}
	var l []told
	for i := range n {
		places := fan + 1024 + 20*n + 8*i
		x := told{api.ID(b[fan+1024+20*i:]), four(places), four(places + 4)}
		if x.pack >= uint32(packs) || x.at > 2147483647 || i > 0 && bytes.Compare(l[i-1].id[:], x.id[:]) >= 0 {
			return nil, nil, api.ErrForm
		}
		l = append(l, x)
	}
	right := laid(names, l)
	if !bytes.Equal(b[12:72], right[12:72]) || !bytes.Equal(b[fan:fan+1024], right[fan:fan+1024]) {
		return nil, nil, api.ErrForm
	}
	return names, l, api.OK
}

func slowNames(b []byte, n int) ([]string, bool) {
	var names []string
	for i := range n {
		s := string(b[50*i : 50*i+49])
		if !nameForm.MatchString(s) || b[50*i+49] != 0 || i > 0 && s <= names[i-1] {
			return nil, false
		}
		names = append(names, s)
	}
	return names, len(bytes.Trim(b[50*n:], "\x00")) == 0
}

// checkOpen holds all that Open tells of b against the slow model.
func checkOpen(t testing.TB, b []byte) api.Errno {
	t.Helper()
	names, l, want := slowOpen(b)
	was := bytes.Clone(b)
	x, err := midx.Open(b)
	if err != want || (x == nil) != (err != api.OK) {
		t.Fatalf("Open(%d bytes): %v, %v, not %v", len(b), x, err, want)
	}
	if !bytes.Equal(b, was) {
		t.Fatalf("Open changed %x to %x", was, b)
	}
	if err == api.OK {
		checkIndex(t, x, names, l)
	}
	return err
}

// checkIndex demands that x tells just these names and IDs, which are in order.
func checkIndex(t testing.TB, x *midx.Index, names []string, l []told) {
	t.Helper()
	if got := x.Packs(); !slices.Equal(got, names) {
		t.Fatalf("Packs: %q, not %q", got, names)
	}
	ids := x.IDs()
	if x.Len() != len(l) || len(ids) != len(l) {
		t.Fatalf("Len: %d, %d IDs, not %d", x.Len(), len(ids), len(l))
	}
	asked := map[api.ID]midx.Place{}
	none := midx.Place{Pack: "none", At: -1}
	asked[api.ID{}], asked[ff()] = none, none
	for i, want := range l {
		if ids[i] != want.id {
			t.Fatalf("IDs: the one at %d is %x, not %x", i, ids[i], want.id)
		}
		for at := range want.id {
			for _, by := range []byte{1, 255} {
				id := want.id
				id[at] += by
				asked[id] = none
			}
		}
	}
	for _, want := range l {
		asked[want.id] = midx.Place{Pack: names[want.pack], At: int(want.at)}
	}
	for id, want := range asked {
		is := want != none
		if !is {
			want = midx.Place{}
		}
		if p, got := x.Find(id); got != is || p != want {
			t.Fatalf("Find(%x): %+v, %v, not %+v, %v", id, p, got, want, is)
		}
	}
}

// checkBuild holds Build of packs against the slow model, and has what it made read again.
func checkBuild(t testing.TB, packs []midx.Pack) ([]byte, api.Errno) {
	t.Helper()
	want, wantErr := slowBuild(packs)
	was := cloned(packs)
	b, err := midx.Build(packs)
	if err != wantErr || !bytes.Equal(b, want) {
		t.Fatalf("Build(%+v): %x, %v, not %x, %v", packs, b, err, want, wantErr)
	}
	if !same(packs, was) {
		t.Fatalf("Build changed %+v to %+v", was, packs)
	}
	if err == api.OK {
		if err := checkOpen(t, b); err != api.OK {
			t.Fatalf("Open of Build(%+v): %v", packs, err)
		}
	}
	return b, err
}

func cloned(packs []midx.Pack) []midx.Pack {
	out := slices.Clone(packs)
	for i := range out {
		out[i].Rows = slices.Clone(out[i].Rows)
	}
	return out
}

func same(a, b []midx.Pack) bool {
	return slices.EqualFunc(a, b, func(p, q midx.Pack) bool { return p.Name == q.Name && slices.Equal(p.Rows, q.Rows) })
}

func ff() api.ID { return api.ID(bytes.Repeat([]byte{255}, 20)) }
