package oid_test

import (
	"encoding/hex"
	"math/rand"
	"slices"
	"strings"
	"testing"

	"trove/api"
	"trove/oid"
)

// The model knows names as texts alone, and goes through all of them for each question.

func texts(l []api.ID) []string {
	var out []string
	for _, id := range l {
		out = append(out, hex.EncodeToString(id[:]))
	}
	return out
}

func modelSort(l []string) []string {
	seen := map[string]bool{}
	for _, s := range l {
		seen[s] = true
	}
	var out []string
	for s := range seen {
		out = append(out, s)
	}
	slices.Sort(out)
	return out
}

func modelFind(l []string, id string) (int, bool) {
	at := 0
	for _, s := range l {
		if s < id {
			at++
		}
	}
	return at, slices.Contains(l, id)
}

func begin(l []string, front string) []string {
	var out []string
	for _, s := range l {
		if strings.HasPrefix(s, front) {
			out = append(out, s)
		}
	}
	return out
}

func modelShort(l []string, id string) (string, api.Errno) {
	if !slices.Contains(l, id) {
		return "", api.ErrNone
	}
	n := 4
	for len(begin(l, id[:n])) > 1 {
		n++
	}
	return id[:n], api.OK
}

func modelMatch(l []string, prefix string) (string, api.Errno) {
	if len(prefix) < 4 || len(prefix) > 40 || strings.ContainsFunc(prefix, func(r rune) bool { return !strings.ContainsRune("0123456789abcdef", r) }) {
		return strings.Repeat("0", 40), api.ErrForm
	}
	switch all := begin(l, prefix); len(all) {
	case 0:
		return strings.Repeat("0", 40), api.ErrNone
	case 1:
		return all[0], api.OK
	}
	return strings.Repeat("0", 40), api.ErrExists
}

func modelFanout(l []string) [256]int {
	var out [256]int
	for i := range out {
		for _, s := range l {
			if s[:2] <= hex.EncodeToString([]byte{byte(i)}) {
				out[i]++
			}
		}
	}
	return out
}

// checkRow asks all of the names in l, and of the names and fronts asked.
func checkRow(t *testing.T, l []api.ID, asked []api.ID, fronts []string) {
	t.Helper()
	row, want := oid.Sort(l), modelSort(texts(l))
	if !slices.Equal(texts(row), want) {
		t.Fatalf("Sort(%x): %x", l, row)
	}
	if got := oid.Fanout(row); got != modelFanout(want) {
		t.Fatalf("Fanout(%x): %v", row, got)
	}
	for _, id := range slices.Concat(row, asked) {
		s := hex.EncodeToString(id[:])
		at, is := modelFind(want, s)
		checkFind(t, row, id, at, is)
		short, err := modelShort(want, s)
		checkShort(t, row, id, short, err)
		fronts = append(fronts, s, s[:4], s[:5], short)
	}
	for _, f := range fronts {
		s, err := modelMatch(want, f)
		checkMatch(t, row, f, name(t, s), err)
	}
	for k, a := range row {
		for _, b := range asked {
			if oid.Less(a, b) != (want[k] < hex.EncodeToString(b[:])) {
				t.Fatalf("Less(%x, %x)", a, b)
			}
		}
	}
	if t.Failed() {
		t.FailNow()
	}
}

// nearName is like another one up to some sign.
func nearName(r *rand.Rand, l []api.ID) api.ID {
	id := someName(r)
	if len(l) == 0 || r.Intn(5) == 0 {
		return id
	}
	old := l[r.Intn(len(l))]
	n := r.Intn(21)
	copy(id[:n], old[:n])
	if n < 20 && r.Intn(2) == 0 {
		id[n] = old[n]&0xF0 | id[n]&0x0F
	}
	return id
}

func TestP1101AgainstTheModel(t *testing.T) {
	r := rand.New(rand.NewSource(3))
	for range 2000 {
		var l, asked []api.ID
		for range r.Intn(20) {
			l = append(l, nearName(r, l))
		}
		var fronts []string
		for range 5 {
			id := nearName(r, l)
			asked = append(asked, id)
			fronts = append(fronts, hex.EncodeToString(id[:])[:r.Intn(41)])
		}
		checkRow(t, l, asked, fronts)
	}
}

func FuzzRows(f *testing.F) {
	f.Add([]byte("abcdefghijklmnopqrstuvwxyz"), "0a1b")
	f.Add([]byte{20, 0, 20, 255, 3, 1, 20, 1, 19, 0}, "0000000")
	f.Add([]byte{}, "")
	f.Fuzz(func(t *testing.T, b []byte, front string) {
		var l []api.ID
		for len(b) > 1 && len(l) < 40 { // how much of the name ahead is taken, and what comes behind
			var id api.ID
			n := int(b[0]) % 21
			if len(l) > 0 {
				copy(id[:n], l[len(l)-1][:n])
			}
			for k := n; k < len(id); k++ {
				id[k] = b[1] * byte(k)
			}
			l = append(l, id)
			b = b[2:]
		}
		checkRow(t, l, []api.ID{known, {}}, []string{front})
		id, err := oid.Parse(front)
		back, wrong := hex.DecodeString(front)
		if right := wrong == nil && len(back) == 20 && front == strings.ToLower(front); right != (err == api.OK) || right && oid.Hex(id) != front {
			t.Errorf("Parse(%q): %x, %v", front, id, err)
		}
	})
}
