package chain_test

import (
	"math/rand"
	"slices"
	"strconv"
	"testing"

	"trove/api"
	"trove/chain"
	"trove/delta"
	"trove/entry"
)

// letters answers the blobs of those letters a, b, c .. whose bits are set.
func letters(set int) haver {
	var l []string
	for k := range 8 {
		if set>>k&1 == 1 {
			l = append(l, letter(k))
		}
	}
	return blobs(l...)
}

func letter(k int) string { return string(rune('a' + k)) }

// laid answers entries with places as a pack has them, ten bytes each; Back is in entries.
func laid(l []entry.Entry) []entry.Entry {
	l = slices.Clone(l)
	for i, e := range l {
		l[i].At = 12 + 10*i
		if e.Kind == entry.Ofs {
			l[i].Back *= 10
		}
	}
	return l
}

// smallEntries: all that may stand at a place, of so many letters. A delta between letters makes its letter of any one.
func smallEntries(place, count int) []entry.Entry {
	var l []entry.Entry
	for k := range count {
		l = append(l, blob(letter(k)))
		for from := range count {
			l = append(l, ref(letter(from), letter(k)))
		}
		for back := 1; back <= place; back++ {
			l = append(l, ofs(back, "a", letter(k)))
		}
	}
	return append(l, refTo("a", []byte{0}))
}

// TestP1601AllSmall: all packs of three entries of three letters, with all that have may have of these.
func TestP1601AllSmall(t *testing.T) {
	for _, first := range smallEntries(0, 3) {
		for _, second := range smallEntries(1, 3) {
			for _, third := range smallEntries(2, 3) {
				l := laid([]entry.Entry{first, second, third})
				for set := range 8 {
					checkResolve(t, l, letters(set))
				}
			}
		}
	}
}

// TestP1601SomeSmall: the same of more entries and letters, at random.
func TestP1601SomeSmall(t *testing.T) {
	random := rand.New(rand.NewSource(1601))
	for range 6000 {
		var l []entry.Entry
		count := 2 + random.Intn(7)
		for i := range 1 + random.Intn(9) {
			of := smallEntries(i, count)
			l = append(l, of[random.Intn(len(of))])
		}
		checkResolve(t, laid(l), letters(random.Intn(256)))
	}
}

// some is objects, of which each but the first has another one ahead of it as its base.
type some struct {
	objects []chain.Object
	base    []int // -1: none
	outside []bool
}

// someObjects: at most so many, in rows that go on as often as long says of ten; one of so many is outside, if it has no base.
func someObjects(random *rand.Rand, count, long, outside int) some {
	var s some
	for i := range count {
		kind := []int{api.Blob, api.Blob, api.Commit, api.Tree, api.Tag}[random.Intn(5)]
		base := -1
		if i > 0 && random.Intn(10) < long {
			base = max(0, i-1-random.Intn(1+random.Intn(4)))
			kind = s.objects[base].Kind
		}
		o := whole(kind, kindBytes(kind, strconv.Itoa(i)))
		if base >= 0 {
			o.Deep = s.objects[base].Deep + 1
		}
		s.objects = append(s.objects, o)
		s.base = append(s.base, base)
		s.outside = append(s.outside, base < 0 && random.Intn(outside) == 0)
	}
	return s
}

// entries answers those that are not outside, in any order (of Write: Back is in entries), with the objects that they make, and the ones outside that they need.
func (s some) entries(random *rand.Rand) (l []entry.Entry, made []chain.Object, needed []chain.Object) {
	at := map[int]int{}
	need := map[int]bool{}
	for _, i := range random.Perm(len(s.objects)) {
		if s.outside[i] {
			continue
		}
		at[i] = len(l)
		o, base := s.objects[i], s.base[i]
		e := entry.Entry{Kind: o.Kind, Data: o.Data}
		if base >= 0 {
			place, ahead := at[base]
			e = entry.Entry{Kind: entry.Ref, Base: s.objects[base].ID}
			if ahead && random.Intn(3) > 0 {
				e = entry.Entry{Kind: entry.Ofs, Back: len(l) - place}
			}
			e.Data = delta.Make(s.objects[base].Data, o.Data, 1)
			need[base] = need[base] || s.outside[base]
		}
		l, made = append(l, e), append(made, o)
	}
	for i, o := range s.objects {
		if need[i] {
			needed = append(needed, o)
		}
	}
	return l, made, needed
}

func ids(l []chain.Object) []api.ID {
	var out []api.ID
	for _, o := range l {
		out = append(out, o.ID)
	}
	slices.SortFunc(out, func(a, b api.ID) int { return slices.Compare(a[:], b[:]) })
	return out
}

// TestP1601Random: packs made of objects that are known, in any order: Resolve tells these; and Complete makes them whole.
func TestP1601Random(t *testing.T) {
	random := rand.New(rand.NewSource(1602))
	tooDeep := 0
	for range 400 {
		s := someObjects(random, 1+random.Intn(40), 3+random.Intn(8), 1+random.Intn(4))
		l, made, needed := s.entries(random)
		b := packed(t, l...)
		got, bases, err := checkDenote(t, b, holding(needed...))
		if chain.Depth(made) > api.MaxChain {
			tooDeep++
			if err != api.ErrLong && err != api.ErrNone {
				t.Fatalf("%d deep: %v", chain.Depth(made), err)
			}
			continue
		}
		if err != api.OK || !sameObjects(got, made) || !slices.Equal(bases, ids(needed)) {
			t.Fatalf("%+v: %+v, %x, %v, not %+v, %x", s, got, bases, err, made, ids(needed))
		}
		checkComplete(t, b, needed, random.Intn(4)-1)
	}
	if tooDeep < 10 || tooDeep > 200 {
		t.Errorf("%d of 400 are too deep", tooDeep)
	}
}

// TestP1601RandomWrong: the same with entries that are taken out, come twice or are spoilt, and with a have that has whatever.
func TestP1601RandomWrong(t *testing.T) {
	random := rand.New(rand.NewSource(1603))
	seen := map[api.Errno]int{}
	for range 1500 {
		s := someObjects(random, 1+random.Intn(40), 4+random.Intn(7), 1+random.Intn(4))
		l, _, needed := s.entries(random)
		for _, o := range s.objects {
			if random.Intn(8) == 0 {
				needed = append(needed, o)
			}
		}
		for range random.Intn(3) {
			if len(l) == 0 {
				break
			}
			k := random.Intn(len(l))
			switch random.Intn(4) {
			case 0:
				l[k].Data = noise(random, random.Intn(6), 256)
			case 1:
				l[k] = entry.Entry{Kind: api.Blob, Data: noise(random, random.Intn(2), 4)}
			case 2:
				l[k].Base = s.objects[random.Intn(len(s.objects))].ID
			case 3:
				if len(needed) > 0 {
					needed = slices.Delete(needed, 0, 1)
				}
			}
		}
		_, _, err := checkDenote(t, packed(t, l...), holding(needed...))
		seen[err]++
	}
	for _, err := range []api.Errno{api.OK, api.ErrNone, api.ErrLong, api.ErrForm, api.ErrShort} {
		if seen[err] < 5 {
			t.Errorf("%v is met %d times: %v", err, seen[err], seen)
		}
	}
}

// fuzzed: entries of letters, and of what b says besides, four bytes each.
func fuzzed(b []byte) []entry.Entry {
	var l []entry.Entry
	for ; len(b) >= 4; b = b[4:] {
		from, to := letter(int(b[1])%20), letter(int(b[2])%20)
		switch b[0] % 8 {
		case 0, 1:
			l = append(l, blob(to))
		case 2:
			l = append(l, blob(to+to))
		case 3:
			l = append(l, refTo(from, b[1:4]))
		case 4:
			l = append(l, entry.Entry{Kind: 1 + int(b[1])%4, Data: []byte(kindBytes(1+int(b[2])%4, to))})
		case 5, 6:
			l = append(l, ref(from, to))
		case 7:
			if len(l) == 0 {
				l = append(l, blob(to))
				break
			}
			l = append(l, ofs(1+int(b[3])%len(l), from, to))
		}
	}
	return l
}

func FuzzP1601(f *testing.F) {
	f.Add(0, []byte{0, 0, 1, 0, 7, 0, 2, 0, 5, 2, 3, 0})
	f.Add(7, []byte{5, 1, 2, 0, 5, 2, 3, 0, 5, 0, 1, 0})
	f.Add(1, []byte{3, 0, 1, 0, 4, 1, 2, 3, 2, 5, 5, 5})
	f.Fuzz(func(t *testing.T, set int, b []byte) {
		if len(b) > 240 {
			return
		}
		l := fuzzed(b)
		checkResolve(t, laid(l), letters(set))
		checkDenote(t, packed(t, l...), letters(set))
	})
}
