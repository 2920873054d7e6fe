package oid_test

import (
	"encoding/hex"
	"math/rand"
	"slices"
	"strings"
	"testing"

	"trove/api"
	"trove/oid"
)

// known: a name of which no two bytes are alike, and its signs.
var known = api.ID{0x01, 0x23, 0x45, 0x67, 0x89, 0xAB, 0xCD, 0xEF, 0xFE, 0xDC, 0xBA, 0x98, 0x76, 0x54, 0x32, 0x10, 0x00, 0xFF, 0x0F, 0xF0}

const knownHex = "0123456789abcdeffedcba987654321000ff0ff0"

// name makes a name of the signs at its front; the others are 0.
func name(t testing.TB, front string) api.ID {
	t.Helper()
	var id api.ID
	b, err := hex.DecodeString(front + strings.Repeat("0", 40-len(front)))
	if err != nil {
		t.Fatal(err)
	}
	copy(id[:], b)
	return id
}

func names(t testing.TB, fronts ...string) []api.ID {
	t.Helper()
	l := []api.ID{}
	for _, f := range fronts {
		l = append(l, name(t, f))
	}
	return l
}

func someName(r *rand.Rand) api.ID {
	var id api.ID
	r.Read(id[:])
	return id
}

func all(v byte) api.ID {
	var id api.ID
	for k := range id {
		id[k] = v
	}
	return id
}

// turned is id with another last bit at the sign k.
func turned(id api.ID, k int) api.ID {
	id[k/2] ^= byte(16 >> (k % 2 * 4))
	return id
}

func checkMatch(t *testing.T, l []api.ID, prefix string, want api.ID, wantErr api.Errno) {
	t.Helper()
	if got, err := oid.Match(l, prefix); got != want || err != wantErr {
		t.Errorf("Match(%x, %q): %x, %v, not %x, %v", l, prefix, got, err, want, wantErr)
	}
}

func checkShort(t *testing.T, l []api.ID, id api.ID, want string, wantErr api.Errno) {
	t.Helper()
	if got, err := oid.Short(l, id); got != want || err != wantErr {
		t.Errorf("Short(%x, %x): %q, %v, not %q, %v", l, id, got, err, want, wantErr)
	}
}

func checkFind(t *testing.T, l []api.ID, id api.ID, want int, wantIs bool) {
	t.Helper()
	if got, is := oid.Find(l, id); got != want || is != wantIs {
		t.Errorf("Find(%x, %x): %d, %v, not %d, %v", l, id, got, is, want, wantIs)
	}
}

func TestP1101HexKnown(t *testing.T) {
	for _, c := range []struct {
		id   api.ID
		want string
	}{
		{known, knownHex},
		{api.ID{}, strings.Repeat("0", 40)},
		{all(0xFF), strings.Repeat("f", 40)},
		{all(0xA0), strings.Repeat("a0", 20)},
		{api.ID{0: 1}, "01" + strings.Repeat("0", 38)},
		{api.ID{19: 1}, strings.Repeat("0", 39) + "1"},
	} {
		if got := oid.Hex(c.id); got != c.want {
			t.Errorf("Hex(%x): %q", c.id, got)
		}
		if got, err := oid.Parse(c.want); got != c.id || err != api.OK {
			t.Errorf("Parse(%q): %x, %v", c.want, got, err)
		}
	}
}

func TestP1101HexEveryByteAtEveryPlace(t *testing.T) {
	for k := range len(api.ID{}) {
		for v := range 256 {
			id := known
			id[k] = byte(v)
			s := hex.EncodeToString(id[:])
			if got := oid.Hex(id); got != s {
				t.Fatalf("Hex(%s): %q", s, got)
			}
			if got, err := oid.Parse(s); got != id || err != api.OK {
				t.Fatalf("Parse(%q): %x, %v", s, got, err)
			}
		}
	}
}

func TestP1101ParseWrongSigns(t *testing.T) {
	for k := range len(knownHex) {
		for v := range 256 {
			right := '0' <= v && v <= '9' || 'a' <= v && v <= 'f'
			s := knownHex[:k] + string([]byte{byte(v)}) + knownHex[k+1:]
			got, err := oid.Parse(s)
			if right != (err == api.OK) || !right && (err != api.ErrForm || got != api.ID{}) {
				t.Fatalf("Parse(%q): %x, %v", s, got, err)
			}
		}
	}
}

func TestP1101ParseWrongTexts(t *testing.T) {
	wrong := []string{
		strings.ToUpper(knownHex), "0x" + knownHex[2:], "0x" + knownHex, knownHex + "\n", " " + knownHex, knownHex + knownHex,
		knownHex[:38] + "é",                              // forty bytes, not forty signs
		strings.Repeat("é", 40), strings.Repeat("é", 20), // forty letters; forty bytes
		strings.Repeat("０", 40), knownHex[:39] + "\x00",
	}
	for n := range 100 {
		if n != 40 {
			wrong = append(wrong, strings.Repeat("a", n))
		}
	}
	for _, s := range wrong {
		if got, err := oid.Parse(s); err != api.ErrForm || got != (api.ID{}) {
			t.Errorf("Parse(%q): %x, %v", s, got, err)
		}
	}
}

func TestP1101Less(t *testing.T) {
	for k := range len(api.ID{}) {
		for _, p := range [][2]byte{{0, 1}, {0, 255}, {0x7F, 0x80}, {0x0F, 0x10}, {0x1F, 0x20}, {254, 255}, {1, 128}} {
			a, b := known, known
			a[k], b[k] = p[0], p[1]
			if k+1 < len(a) { // what stands behind does not count
				a[k+1], b[k+1] = 255, 0
			}
			if !oid.Less(a, b) || oid.Less(b, a) {
				t.Errorf("Less: %x, %x", a, b)
			}
		}
	}
	for _, id := range []api.ID{{}, known, all(255)} {
		if oid.Less(id, id) {
			t.Errorf("Less: %x is ahead of itself", id)
		}
	}
}

func TestP1101SortAllRisingEachOnce(t *testing.T) {
	a, b, c, d := name(t, "0001"), name(t, "7f"), name(t, "80"), all(255)
	for _, l := range [][]api.ID{
		{a, b, c, d}, {d, c, b, a}, {b, d, a, c}, {a, a, b, c, d, d}, {d, a, d, b, c, a, d, b}, {c, c, c, d, a, b, c},
	} {
		if got := oid.Sort(l); !slices.Equal(got, []api.ID{a, b, c, d}) {
			t.Errorf("Sort(%x): %x", l, got)
		}
	}
	for _, l := range [][]api.ID{{c}, {c, c}, slices.Repeat([]api.ID{c}, 100)} {
		if got := oid.Sort(l); !slices.Equal(got, []api.ID{c}) {
			t.Errorf("Sort(%x): %x", l, got)
		}
	}
	for _, l := range [][]api.ID{nil, {}} {
		if got := oid.Sort(l); len(got) != 0 {
			t.Errorf("Sort of none: %x", got)
		}
	}
}

func TestP1101SortLongRows(t *testing.T) {
	r := rand.New(rand.NewSource(1))
	for _, n := range []int{11, 12, 13, 50, 1000, 5000} {
		l := make([]api.ID, 0, 2*n)
		for range n {
			l = append(l, someName(r))
		}
		want := slices.Clone(l)
		slices.SortFunc(want, func(a, b api.ID) int { return strings.Compare(string(a[:]), string(b[:])) })
		l = append(l, l...)
		r.Shuffle(len(l), func(i, j int) { l[i], l[j] = l[j], l[i] })
		if got := oid.Sort(l); !slices.Equal(got, want) {
			t.Errorf("Sort of %d names, each twice: %d names", n, len(got))
		}
	}
}

func TestP1101SortAnswersNewMemory(t *testing.T) {
	a, b, c := name(t, "1"), name(t, "2"), name(t, "3")
	for _, start := range [][]api.ID{{c, a, b, a, known, known}, {a, b, c, known, known, known}, {a, known, known, known, known, known}} {
		for n := range len(start) {
			l := slices.Clone(start)
			got := oid.Sort(l[:n])
			if !slices.Equal(l, start) {
				t.Fatalf("Sort changed what it was handed: %x", l)
			}
			got = got[:cap(got)]
			for k := range got {
				got[k] = all(9)
			}
			if !slices.Equal(l, start) {
				t.Fatal("what Sort answered is what it was handed")
			}
		}
	}
}

func TestP1101Find(t *testing.T) {
	a, b, c := name(t, "1"), name(t, "7f"), name(t, "80")
	for _, x := range []struct {
		l    []api.ID
		id   api.ID
		want int
		is   bool
	}{
		{nil, a, 0, false}, {[]api.ID{}, api.ID{}, 0, false},
		{[]api.ID{b}, b, 0, true}, {[]api.ID{b}, a, 0, false}, {[]api.ID{b}, c, 1, false},
		{[]api.ID{a, b, c}, a, 0, true}, {[]api.ID{a, b, c}, b, 1, true}, {[]api.ID{a, b, c}, c, 2, true},
		{[]api.ID{a, b, c}, api.ID{}, 0, false}, {[]api.ID{a, b, c}, name(t, "2"), 1, false},
		{[]api.ID{a, b, c}, name(t, "7f1"), 2, false}, {[]api.ID{a, b, c}, all(255), 3, false},
		{[]api.ID{{}, all(255)}, api.ID{}, 0, true}, {[]api.ID{{}, all(255)}, all(255), 1, true}, {[]api.ID{{}, all(255)}, a, 1, false},
	} {
		checkFind(t, x.l, x.id, x.want, x.is)
	}
}

func TestP1101FindInLongRows(t *testing.T) {
	for n := range 70 {
		var l []api.ID
		for k := range n {
			l = append(l, api.ID{7, 19: byte(2*k + 1)})
		}
		for k := range 2*n + 1 {
			checkFind(t, l, api.ID{7, 19: byte(k)}, k/2, k%2 == 1)
		}
	}
}

func TestP1101ShortKnown(t *testing.T) {
	l := names(t, "0a1b2", "0a1b3", "0a1b33", "0a1c", "ff")
	for k, want := range []string{"0a1b2", "0a1b30", "0a1b33", "0a1c", "ff00"} {
		checkShort(t, l, l[k], want, api.OK)
	}
	for _, f := range []string{"", "0", "0a1b", "0a1b4", "f", "ffffff"} {
		checkShort(t, l, name(t, f), "", api.ErrNone)
	}
	checkShort(t, nil, known, "", api.ErrNone)
	checkShort(t, []api.ID{}, api.ID{}, "", api.ErrNone)
	for _, id := range []api.ID{{}, known, all(255)} {
		checkShort(t, []api.ID{id}, id, oid.Hex(id)[:4], api.OK)
	}
}

func TestP1101ShortTellsFromBothNeighbours(t *testing.T) {
	for k := range 40 {
		for j := range 40 {
			other, third := turned(known, k), turned(known, j)
			l := oid.Sort([]api.ID{known, other, third})
			checkShort(t, l, known, knownHex[:max(4, k+1, j+1)], api.OK)
			checkShort(t, oid.Sort([]api.ID{known, other}), known, knownHex[:max(4, k+1)], api.OK)
			checkShort(t, oid.Sort([]api.ID{known, other}), other, oid.Hex(other)[:max(4, k+1)], api.OK)
		}
	}
}

func TestP1101ShortByHalvesOfBytes(t *testing.T) {
	for _, c := range []struct{ front, before, behind, want string }{
		{"12345", "12340", "1235", "12345"},      // the one ahead of it is the nearer one
		{"12345", "1233", "12346", "12345"},      // the one behind it is
		{"12345", "12345", "1", "1234"},          // the same name is no other one
		{"123460", "12345", "1", "12346"},        // unlike in the high half of a byte
		{"123456", "123455", "123457", "123456"}, // in the low half
		{"1234f0", "1234e0", "123500", "1234f"},  // in a half's last bit
		{"80000", "7ffff", "80001", "80000"},     // from the first sign on
		{"0001", "0000ffff", "0002", "0001"},     // four signs are enough
		{"0001", "0000ffff", "00010001", "00010000"},
	} {
		id := name(t, c.front)
		checkShort(t, oid.Sort([]api.ID{id, name(t, c.before), name(t, c.behind)}), id, c.want, api.OK)
	}
}

func TestP1101MatchKnown(t *testing.T) {
	l := names(t, "0a1b2", "0a1b3", "0a1b33", "0a1c", "ff")
	none := api.ID{}
	checkMatch(t, l, "0a1b2", l[0], api.OK)
	checkMatch(t, l, "0a1b20", l[0], api.OK)
	checkMatch(t, l, "0a1b30", l[1], api.OK)
	checkMatch(t, l, "0a1b33", l[2], api.OK)
	checkMatch(t, l, "0a1c", l[3], api.OK)
	checkMatch(t, l, "ff00", l[4], api.OK)
	checkMatch(t, l, "0a1b", none, api.ErrExists)
	checkMatch(t, l, "0a1b3", none, api.ErrExists)
	for _, s := range []string{"0000", "0a1a", "0a1b1", "0a1b21", "0a1b31", "0a1b4", "0a1d", "fe00", "ff01", "ffff"} {
		checkMatch(t, l, s, none, api.ErrNone)
	}
	for k := range l {
		checkMatch(t, l, oid.Hex(l[k]), l[k], api.OK)
		checkMatch(t, l, oid.Hex(turned(l[k], 39)), none, api.ErrNone)
	}
}

func TestP1101MatchEveryLength(t *testing.T) {
	for k := range 40 {
		other := turned(known, k)
		l := oid.Sort([]api.ID{{}, known, other, all(255)})
		for n := 4; n <= 40; n++ {
			if n <= k {
				checkMatch(t, l, knownHex[:n], api.ID{}, api.ErrExists)
				continue
			}
			checkMatch(t, l, knownHex[:n], known, api.OK)
			checkMatch(t, l, oid.Hex(other)[:n], other, api.OK)
		}
	}
	for n := 4; n <= 40; n++ { // at both ends of all names
		l := []api.ID{{}, all(255)}
		checkMatch(t, l, strings.Repeat("0", n), api.ID{}, api.OK)
		checkMatch(t, l, strings.Repeat("f", n), all(255), api.OK)
		checkMatch(t, l, strings.Repeat("f", n-1)+"e", api.ID{}, api.ErrNone)
		checkMatch(t, l, strings.Repeat("0", n-1)+"1", api.ID{}, api.ErrNone)
		checkMatch(t, nil, strings.Repeat("0", n), api.ID{}, api.ErrNone)
	}
}

func TestP1101MatchWrongPrefixes(t *testing.T) {
	wrong := []string{"0A1B", "zzzz", "012g", "012 ", " 012", "012\n", "0x12", "é00", "00é", "éééé", "０１２３", "012\x00", "\xff\xff\xff\xff", knownHex + "0", strings.ToUpper(knownHex), knownHex[:39] + "G"}
	for n := range 4 {
		wrong = append(wrong, knownHex[:n])
	}
	for n := 41; n < 100; n++ {
		wrong = append(wrong, strings.Repeat("0", n))
	}
	for v := range 256 {
		if !strings.Contains("0123456789abcdef", string([]byte{byte(v)})) {
			for k := range 5 {
				wrong = append(wrong, knownHex[:k]+string([]byte{byte(v)})+knownHex[k:4])
			}
		}
	}
	for _, l := range [][]api.ID{nil, {{}}, {known}, {{}, known, turned(known, 39)}} {
		for _, s := range wrong {
			checkMatch(t, l, s, api.ID{}, api.ErrForm)
		}
	}
}

func TestP1101Fanout(t *testing.T) {
	if got := oid.Fanout(nil); got != [256]int{} {
		t.Errorf("of none: %v", got)
	}
	for v := range 256 {
		for _, l := range [][]api.ID{{{byte(v)}}, {{byte(v)}, {byte(v), 1}, {byte(v), 255}}} {
			got := oid.Fanout(l)
			for i, n := range got {
				if want := len(l); i < v && n != 0 || i >= v && n != want {
					t.Fatalf("of %x, at %d: %d", l, i, n)
				}
			}
		}
	}
	got := oid.Fanout(names(t, "00", "0001", "01", "7fff", "80", "fe", "ff", "ffff"))
	for _, c := range [][2]int{{0, 2}, {1, 3}, {2, 3}, {126, 3}, {127, 4}, {128, 5}, {253, 5}, {254, 6}, {255, 8}} {
		if got[c[0]] != c[1] {
			t.Errorf("at %d: %d, not %d", c[0], got[c[0]], c[1])
		}
	}
}

func TestP2RowsAreNotChanged(t *testing.T) {
	start := names(t, "0a1b2", "0a1b3", "0a1b33", "0a1c", "ff", "ff", "1", "0")
	l := slices.Clone(start)
	for n := range len(l) {
		for _, id := range start {
			oid.Find(l[:n], id)
			oid.Short(l[:n], id)
			oid.Match(l[:n], oid.Hex(id)[:4])
			oid.Fanout(l[:n])
		}
	}
	if !slices.Equal(l, start) {
		t.Errorf("changed: %x", l)
	}
}

func TestP8RowsThatAreNone(t *testing.T) {
	r := rand.New(rand.NewSource(2))
	for range 3000 {
		var l []api.ID
		for range r.Intn(8) {
			l = append(l, api.ID{byte(r.Intn(2)), 19: byte(r.Intn(2))})
		}
		start := slices.Clone(l)
		for k := range 4 { // they end, whatever they say
			id := api.ID{byte(k / 2), 19: byte(k % 2)}
			oid.Find(l, id)
			oid.Short(l, id)
			oid.Match(l, oid.Hex(id))
			oid.Match(l, oid.Hex(id)[:4])
		}
		oid.Fanout(l)
		if !slices.Equal(l, start) {
			t.Fatalf("changed: %x", l)
		}
	}
}
