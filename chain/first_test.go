package chain_test

import (
	"math/rand"
	"slices"
	"strconv"
	"testing"

	"trove/api"
	"trove/chain"
	"trove/entry"
)

// sign: a text of one byte that is no letter of smallEntries.
func sign(k int) string { return string(rune('0' + k)) }

// deepRow: entries of which one makes the blob to by so many deltas, and the others signs: by place, by name, or by name with the last of them in front.
func deepRow(n, kind int, to string) []entry.Entry {
	l := []entry.Entry{blob(sign(0))}
	for k := 1; k <= n; k++ {
		next := sign(k)
		if k == n {
			next = to
		}
		if kind == 0 {
			l = append(l, ofs(1, sign(k-1), next))
		} else {
			l = append(l, ref(sign(k-1), next))
		}
	}
	if kind == 2 {
		slices.Reverse(l)
	}
	return l
}

// put answers l with e at a place; what leads by place over it leads as far as it did.
func put(l []entry.Entry, at int, e entry.Entry) []entry.Entry {
	l = slices.Clone(l)
	for i := at; i < len(l); i++ {
		if l[i].Kind == entry.Ofs && i-l[i].Back < at {
			l[i].Back++
		}
	}
	return slices.Insert(l, at, e)
}

// TestP1601FirstOfTwo: of two entries that make one object the first in order is the base of what names it, wherever all of them stand.
func TestP1601FirstOfTwo(t *testing.T) {
	for kind := range 3 {
		deep := deepRow(api.MaxChain, kind, "a")
		last := slices.IndexFunc(deep, func(e entry.Entry) bool { return string(e.Data) == string(by(sign(api.MaxChain-1), "a")) })
		for whole := range len(deep) + 1 {
			two := put(deep, whole, blob("a"))
			want := api.ErrLong
			if whole <= last {
				want = api.ErrForm
			}
			for child := range len(two) + 1 {
				for _, have := range []haver{nil, blobs("a", "b")} {
					wrong(t, "the child of one of two", have, want, put(two, child, ref("a", "b"))...)
				}
			}
		}
	}
}

// TestP1601FirstOfSeveral: the same of more than two, and of what stands on what names one of them.
func TestP1601FirstOfSeveral(t *testing.T) {
	none, child, next := ref("b", "c"), ref("a", "b"), []entry.Entry{ref("a", "b"), ref("b", "c")}
	deep, less := deepRow(api.MaxChain, 0, "a"), []entry.Entry{blob("x"), ofs(1, "x", "a")}
	wrong(t, "what stands on a wrong one", nil, api.ErrNone, slices.Concat([]entry.Entry{none, child}, deep, less)...)
	wrong(t, "it stands behind", nil, api.ErrLong, slices.Concat(next, deep, less)...)
	wrong(t, "three", nil, api.ErrLong, slices.Concat(next, deep, less, []entry.Entry{blob("a")})...)
	wrong(t, "three, the deep one is the second", nil, api.ErrForm, slices.Concat(next, less, deep, []entry.Entry{blob("a")})...)
	wrong(t, "three, the deep one is the last", nil, api.ErrForm, slices.Concat(next, less, []entry.Entry{blob("a")}, deep)...)
	almost := deepRow(api.MaxChain-1, 0, "a")
	wrong(t, "as deep as may be", nil, api.ErrForm, slices.Concat([]entry.Entry{child}, almost, less)...)
	wrong(t, "as deep as may be, and one more", nil, api.ErrLong, slices.Concat(next, almost, less)...)
	wrong(t, "both by names of two", nil, api.ErrLong, slices.Concat(next, less, []entry.Entry{blob("y"), ofs(1, "y", "b")}, deepRow(api.MaxChain, 0, "b"), []entry.Entry{ref("b", "e")}, deep, []entry.Entry{ref("c", "d"), ofs(2, "a", "f")})...)
}

// TestP1601FirstThatIsTold: an entry that has an error is not told, and so no base: the next one is.
func TestP1601FirstThatIsTold(t *testing.T) {
	deep := deepRow(api.MaxChain+1, 0, "a")
	child := []entry.Entry{ref("a", "b")}
	for kind := range 3 {
		wrong(t, "the first is too deep", nil, api.ErrLong, slices.Concat(child, deepRow(api.MaxChain+1, kind, "a"), []entry.Entry{blob("a")})...)
	}
	wrong(t, "both are too deep", nil, api.ErrNone, slices.Concat(child, deep, deepRow(api.MaxChain+1, 1, "a"))...)
	wrong(t, "the first is too deep, the second deep", nil, api.ErrLong, slices.Concat(child, deep, []entry.Entry{blob("x"), ofs(1, "x", "a")})...)
	wrong(t, "the first stands on one that is too deep", nil, api.ErrLong, slices.Concat(child, deepRow(api.MaxChain+1, 0, "x"), []entry.Entry{ofs(1, "x", "a"), blob("a")})...)
	wrong(t, "the first stands on nothing", nil, api.ErrNone, refTo("a", []byte{1}), ref("lost", "a"))
	wrong(t, "the first stands on nothing, the second is told", nil, api.ErrShort, refTo("a", []byte{1}), ref("lost", "a"), blob("a"))
	// The first is told only when have is asked, and by then the child has been told by the other one.
	late := slices.Concat([]entry.Entry{ref("lost", sign(0))}, deepRow(api.MaxChain-1, 0, "a")[1:])
	wrong(t, "the first is told by have", blobs("lost"), api.ErrForm, slices.Concat(late, []entry.Entry{blob("a")}, child)...)
	wrong(t, "the only one is told by have", blobs("lost"), api.ErrLong, slices.Concat(child, late)...)
}

// TestP1601Itself: what stands on an entry is no base of it, though it is one of others.
func TestP1601Itself(t *testing.T) {
	wrong(t, "alone", nil, api.ErrNone, ref("a", "a"))
	wrong(t, "to and fro", nil, api.ErrNone, ref("a", "b"), ref("b", "a"))
	wrong(t, "to and fro, by place", nil, api.ErrNone, ref("a", "b"), ofs(1, "b", "a"))
	wrong(t, "to and fro, and a whole", nil, api.ErrForm, ref("a", "b"), ref("b", "a"), blob("a"))
	wrong(t, "from outside", blobs("a"), api.ErrForm, ref("a", "a"), ref("a", "a"))
	for _, c := range []struct {
		what string
		l    []entry.Entry
		most int // how deep the deepest is, if the row makes an x of no delta
	}{
		{"itself", []entry.Entry{ref("x", "x")}, 1},
		{"one is it of the others", []entry.Entry{ref("x", "x"), ref("x", "x"), ref("x", "x"), ref("x", "x")}, 2},
		{"and of what is behind", []entry.Entry{ref("x", "x"), ref("x", "y"), ref("y", "z")}, 3},
		{"by name", []entry.Entry{ref("x", "y"), ref("y", "x")}, 2},
		{"by place", []entry.Entry{ref("x", "y"), ofs(1, "y", "x")}, 2},
		{"what does not stand on itself", []entry.Entry{ref("x", "y"), ref("y", "x"), ref("x", "z")}, 3},
		{"the same ahead", []entry.Entry{ref("x", "z"), ref("x", "y"), ref("y", "x")}, 3},
		{"one that is no part of it", []entry.Entry{ref("y", "z"), ref("x", "w"), ref("w", "x"), ref("w", "y"), blob("y")}, 3},
		{"what stands on another such", []entry.Entry{ref("x", "y"), ref("y", "x"), ref("r", "x"), ref("q", "r"), ref("r", "q"), blob("q")}, 0},
	} {
		for kind := range 3 {
			for n := 1; n <= api.MaxChain; n++ {
				want := api.ErrForm
				if n+c.most > api.MaxChain {
					want = api.ErrLong
				}
				wrong(t, c.what, nil, want, slices.Concat(c.l, deepRow(n, kind, "x"))...)
			}
		}
	}
}

// TestP1601RandomFirst: entries of few letters around a deep row.
func TestP1601RandomFirst(t *testing.T) {
	random := rand.New(rand.NewSource(1604))
	seen := map[api.Errno]int{}
	for range 5000 {
		var l []entry.Entry
		count := 2 + random.Intn(6)
		some := func(n int) {
			for range n {
				of := smallEntries(len(l), count)
				l = append(l, of[random.Intn(len(of)-1)])
			}
		}
		some(random.Intn(9))
		for range 1 + random.Intn(2) {
			l = append(l, deepRow(api.MaxChain-random.Intn(6), random.Intn(3), letter(random.Intn(count)))...)
			some(random.Intn(7))
		}
		_, _, err := checkResolve(t, laid(l), letters(random.Intn(256)))
		seen[err]++
	}
	for _, err := range []api.Errno{api.ErrNone, api.ErrLong, api.ErrForm} {
		if seen[err] < 200 {
			t.Errorf("%v is met %d times: %v", err, seen[err], seen)
		}
	}
}

// TestP1EntriesRandom: the same at places that no pack has, several at one and in any order.
func TestP1EntriesRandom(t *testing.T) {
	random := rand.New(rand.NewSource(1605))
	for range 5000 {
		var l []entry.Entry
		count := 1 + random.Intn(4)
		for i := range 1 + random.Intn(12) {
			of := smallEntries(1, count)
			e := of[random.Intn(len(of))]
			e.At, e.Back = random.Intn(2+i), random.Intn(4)
			l = append(l, e)
		}
		if random.Intn(2) == 0 {
			l = append(l, laid(deepRow(api.MaxChain-1, random.Intn(3), letter(0)))...)
		}
		checkResolve(t, l, letters(random.Intn(16)))
	}
}

// TestP1601Rings: a great many entries that stand on one another: it still comes to an end soon.
func TestP1601Rings(t *testing.T) {
	const n = 40000
	alike := slices.Repeat([]entry.Entry{ref("a", "a")}, n)
	alike = append(alike, slices.Repeat([]entry.Entry{{Kind: entry.Ofs, Back: 5, Data: by("a", "a")}}, n)...)
	alike = append(alike, slices.Repeat([]entry.Entry{blob("a")}, n)...)
	var apart, one, wholes []entry.Entry
	for k := range n {
		x, y, z := strconv.Itoa(k)+"x", strconv.Itoa(k)+"y", strconv.Itoa((k+1)%n)+"x"
		apart = append(apart, ref(x, y), ref(y, x), blob(x))
		one = append(one, ref(x, y), ref(y, z))
		wholes = append(wholes, blob(x))
	}
	for what, l := range map[string][]entry.Entry{"all are one": alike, "many rings": apart, "one ring": one, "one ring, and wholes": append(one, wholes...)} {
		for i := range l {
			l[i].At = 5 * i
		}
		if got, bases, err := chain.Resolve(l, nil); len(got) != 0 || len(bases) != 0 || err == api.OK {
			t.Errorf("%s: %d, %d, %v", what, len(got), len(bases), err)
		}
	}
}
