package inflate_test

import (
	"bytes"
	"compress/flate"
	"io"
	"math"
	"math/rand"
	"slices"
	"strings"
	"testing"

	"trove/api"
	"trove/inflate"
)

func TestP701Fixed(t *testing.T) {
	lit, dist := inflate.Fixed()
	if !slices.Equal(lit, fixedLiterals()) || !slices.Equal(dist, many(32, 5)) {
		t.Errorf("%v, %v", lit, dist)
	}
	for _, x := range []struct{ sym, want int }{{0, 8}, {143, 8}, {144, 9}, {255, 9}, {256, 7}, {279, 7}, {280, 8}, {287, 8}} {
		if lit[x.sym] != x.want {
			t.Errorf("%d: %d, not %d", x.sym, lit[x.sym], x.want)
		}
	}
	lit[0], dist[0] = 1, 1
	if lit, dist := inflate.Fixed(); lit[0] != 8 || dist[0] != 5 {
		t.Error("kept")
	}
}

// TestP701ByHand: bytes that other programs made.
func TestP701ByHand(t *testing.T) {
	for _, x := range []struct {
		b    []byte
		want string
	}{
		{[]byte{1, 0, 0, 0xFF, 0xFF}, ""},
		{[]byte{3, 0}, ""},
		{[]byte{1, 3, 0, 0xFC, 0xFF, 'a', 'b', 'c'}, "abc"},
		{[]byte{0xF9, 3, 0, 0xFC, 0xFF, 'a', 'b', 'c'}, "abc"}, // what is passed up to the byte's end may be anything
		{[]byte{0xCB, 0x48, 0xCD, 0xC9, 0xC9, 0x07, 0x00}, "hello"},
		{[]byte{0x4B, 0x4C, 0x84, 0x01, 0x00}, "aaaaaaaaaa"},
		{[]byte{0xCA, 0x48, 0xCD, 0xC9, 0xC9, 0x07, 0, 0, 0, 0xFF, 0xFF, 3, 0}, "hello"},
	} {
		out, used, err := inflate.Inflate(append(slices.Clone(x.b), 7, 7), len(x.want))
		if err != api.OK || used != len(x.b) || string(out) != x.want {
			t.Errorf("%x: %q, %d, %v, not %q", x.b, out, used, err, x.want)
		}
	}
}

func TestP701Stored(t *testing.T) {
	long := strings.Repeat("0123456", 9363)[:65535]
	tells(t, "none", begin().stored(1, ""), "")
	tells(t, "one", begin().stored(1, "\x00"), "\x00")
	tells(t, "a byte's worth", begin().stored(1, long[:255]), long[:255])
	tells(t, "two bytes' worth", begin().stored(1, long[:256]), long[:256])
	tells(t, "the longest", begin().stored(1, long), long)
	tells(t, "several", begin().stored(0, "ab").stored(0, "").stored(1, "c"), "abc")
	for n := range 8 { // wherever the block ahead ends within its byte
		ahead := strings.Repeat("\xFF", n)
		tells(t, "behind "+ahead, begin().fixed(0).text(ahead).end().stored(0, "xyz").fixed(1).text("!").end(), ahead+"xyz!")
	}
}

func TestP701StoredTurnedOver(t *testing.T) {
	for k := range 16 {
		m := begin().head(1, 0)
		m.Align()
		m.put(5, 16).put(^5^1<<k, 16)
		for range 5 {
			m.Byte(0)
		}
		if _, err := check(t, m.Done(), 9); err != api.ErrForm {
			t.Errorf("bit %d: %v", k, err)
		}
	}
	for _, b := range [][]byte{{1, 0, 1, 0xFE, 0xFF}, {1, 1, 0, 1, 0}, {1, 0, 0, 0, 0}, {1, 2, 1, 0xFE, 0xFD, 9, 9}} {
		if _, _, err := inflate.Inflate(b, 300); err != api.ErrForm {
			t.Errorf("%x: %v", b, err)
		}
	}
}

func TestP701Kind3(t *testing.T) {
	for last := range 2 {
		fails(t, "kind 3", begin().head(last, 3), "", 9, api.ErrForm)
		fails(t, "kind 3, behind others", begin().head(last, 3).put(0, 24), "abc", 9, api.ErrForm)
	}
	if _, err := check(t, begin().stored(0, "abc").head(1, 3).Done(), 9); err != api.ErrForm {
		t.Error(err)
	}
}

// halves: a literals' code of two symbols, a and the end.
func halves(n int) []int { return with(n, 'a', 1, 256, 1) }

// TestP701HowMany: as many lengths as there may be of each code, and one more; that is met with its five bits.
func TestP701HowMany(t *testing.T) {
	for _, n := range []int{257, 258, 271, 285, 286} {
		tells(t, "literals", begin().own(1, halves(n), []int{0}).text("aa").end(), "aa")
	}
	for _, n := range []int{1, 2, 15, 29, 30} {
		tells(t, "distances", begin().own(1, halves(257), make([]int, n)).text("aa").end(), "aa")
	}
	for _, n := range []int{287, 288} {
		fails(t, "literals", begin().head(1, 2).put(n-257, 5), "", 9, api.ErrForm)
		fails(t, "literals", begin().own(1, halves(n), []int{0}).text("aa").end(), "", 9, api.ErrForm)
		fails(t, "literals, one bit fewer", begin().head(1, 2).put(n-257, 4), "", 9, api.ErrShort)
	}
	for _, n := range []int{31, 32} {
		fails(t, "distances", begin().head(1, 2).put(0, 5).put(n-1, 5), "", 9, api.ErrForm)
		fails(t, "distances", begin().own(1, halves(257), make([]int, n)).text("aa").end(), "", 9, api.ErrForm)
		fails(t, "distances, one bit fewer", begin().head(1, 2).put(0, 5).put(n-1, 4), "", 9, api.ErrShort)
	}
	fails(t, "both", begin().head(1, 2).put(29, 5).put(29, 5), "", 9, api.ErrShort)
}

// most: the longest runs.
func most(ways int) int { return ways - 1 }

// stairs: lengths 1 to n, and n once more: complete.
func stairs(n int) []int {
	var l []int
	for k := range n {
		l = append(l, k+1)
	}
	return append(l, n)
}

// TestP701LengthsOfLengths: codes that need each of the lengths, with as few lengths of lengths as tell them.
func TestP701LengthsOfLengths(t *testing.T) {
	for n := 1; n <= 15; n++ {
		lit := make([]int, 286)
		copy(lit[256-n:], stairs(n))
		dist := append(stairs(n), make([]int, 29-n)...)
		text := ""
		for k := range n {
			text += string([]byte{byte(256 - n + k)})
		}
		tells(t, "with runs", begin().told(1, lit, dist, most).text(text+text).end(), text+text)
		tells(t, "without", begin().told(1, lit, dist, func(int) int { return 0 }).text(text+text).end(), text+text)
	}
}

// TestP701TheOrder: each of the symbols 1 to 15 alone beside 0 of one bit, told at its own place.
func TestP701TheOrder(t *testing.T) {
	for place, sym := range order[4:] {
		m := begin().head(1, 2).put(0, 5).put(0, 5).put(place+1, 4)
		for range 3 {
			m.Put(0, 3)
		}
		m.Put(1, 3)
		for range place {
			m.Put(0, 3)
		}
		m.Put(1, 3)
		m.lit = code(with(19, 0, 1, sym, 1))
		lens := make([]int, 258)
		for k := range min(1<<sym, 256) {
			lens[256-k] = sym
		}
		for _, n := range lens {
			m.sym(n)
		}
		m.lit = code(lens[:257])
		if sym <= 8 {
			tells(t, "complete", m.text("\xFF").end(), "\xFF")
		} else {
			fails(t, "not complete", m, "", 9, api.ErrForm)
		}
	}
}

// runs: a block of its own codes up to its lengths, which stand by the plain code.
func runs(literals, dists int, l []step) *maker {
	m := begin().sized(1, literals, dists, plain())
	for _, x := range l {
		m.sym(x.sym).put(x.v, x.n)
	}
	return m
}

// behind: n lengths 0 (139 to 265), and these steps.
func behind(n int, l ...step) []step {
	return append([]step{{18, 116, 7}, {18, n - 127 - 11, 7}}, l...)
}

func TestP701Runs(t *testing.T) {
	eights := slices.Concat(make([]int, 249), many(16, 3))
	ends := with(265, 256, 1, 257, 1)
	one := step{1, 0, 0}
	for _, x := range []struct {
		name     string
		literals int
		l        []step
		lens     []int
	}{
		{"16 is 3 to 5", 257, behind(249, step{3, 0, 0}, step{16, 0, 2}, step{16, 1, 2}, step{16, 2, 2}, step{16, 0, 2}), eights},
		{"16 is 6", 257, behind(249, step{3, 0, 0}, step{16, 3, 2}, step{16, 3, 2}, step{16, 0, 2}), eights},
		{"16 behind 17", 257, behind(247, step{17, 0, 3}, step{16, 3, 2}, one, one, step{17, 4, 3}), ends},
		{"16 behind 18", 257, behind(253, step{16, 0, 2}, one, one, step{17, 4, 3}), ends},
		{"17 is 3 to 10", 257, behind(243, step{17, 0, 3}, step{17, 7, 3}, one, one, step{17, 4, 3}), ends},
		{"18 is 11 to 138", 257, []step{{18, 0, 7}, {18, 96, 7}, {18, 127, 7}, one, one, {17, 4, 3}}, ends},
		{"17 over the border", 260, behind(256, one, step{17, 7, 3}), with(267, 256, 1)},
		{"18 over the border", 260, behind(256, one, step{18, 0, 7}), with(268, 256, 1)},
	} {
		m := runs(x.literals, len(x.lens)-x.literals, x.l)
		m.lit, m.dist = code(x.lens[:x.literals]), code(x.lens[x.literals:])
		tells(t, x.name, m.end(), "")
	}
}

// TestP701AgainOfNone is met with the 16, whether its bits stand behind it or not.
func TestP701AgainOfNone(t *testing.T) {
	m := runs(257, 1, []step{{16, 0, 0}})
	fails(t, "alone", m, "", 9, api.ErrForm)
	fails(t, "with its bits", m.put(0, 2), "", 9, api.ErrForm)
	fails(t, "with others", m.put(0, 24), "", 9, api.ErrForm)
}

// TestP701TooManyLengths: a run that fits, and one longer; that is met when the run's bits were read.
func TestP701TooManyLengths(t *testing.T) {
	one := step{1, 0, 0}
	for _, x := range []struct {
		name  string
		dists int
		l     []step
		run   step
	}{
		{"16", 4, behind(256, one, step{2, 0, 0}), step{16, 0, 2}},
		{"17", 8, behind(256, one, one), step{17, 4, 3}},
		{"18", 30, behind(256, one, one), step{18, 18, 7}},
	} {
		fails(t, x.name+" fits", runs(257, x.dists, append(x.l, x.run)), "", 9, api.ErrShort)
		x.run.v++
		fails(t, x.name+", one more", runs(257, x.dists, append(x.l, x.run)), "", 9, api.ErrForm)
		x.run.v = 1<<x.run.n - 1
		fails(t, x.name+", as many as may be", runs(257, x.dists, append(x.l, x.run)), "", 9, api.ErrForm)
		x.run.n--
		fails(t, x.name+", a bit fewer", runs(257, x.dists, append(x.l, x.run)), "", 9, api.ErrShort)
	}
}

// TestP701CodeOfLengths must be complete; that is met when all its lengths were read.
func TestP701CodeOfLengths(t *testing.T) {
	for _, lens := range [][]int{
		make([]int, 19),
		with(19, 0, 1), with(19, 18, 1), with(19, 1, 7),
		with(19, 0, 1, 1, 2), many(19, 5), many(19, 7),
		with(19, 0, 1, 1, 1, 2, 1), with(19, 0, 1, 1, 1, 18, 7), many(19, 4), many(19, 1),
	} {
		fails(t, "not complete", begin().sized(1, 257, 1, lens), "", 9, api.ErrForm)
	}
	fails(t, "over full, its last length cut", begin().head(1, 2).put(0, 10).put(0, 4).put(1, 3).put(1, 3).put(1, 3).put(1, 2), "", 9, api.ErrShort)
	fails(t, "complete", begin().sized(1, 257, 1, plain()), "", 9, api.ErrShort)
}

func TestP701CodeOfLiterals(t *testing.T) {
	for _, x := range []struct {
		name string
		lit  []int
	}{
		{"none", make([]int, 257)},
		{"no end", with(257, 'a', 1, 'b', 1)},
		{"no end, but lengths", with(286, 'a', 1, 257, 1)},
		{"no end, half", with(257, 'a', 1)},
		{"the end alone, of two bits", with(257, 256, 2)},
		{"not complete", with(257, 'a', 1, 256, 2)},
		{"not complete, of two", with(257, 'a', 15, 256, 15)},
		{"over full", with(257, 'a', 1, 'b', 1, 256, 1)},
		{"over full by little", with(257, 'a', 1, 'b', 1, 256, 15)},
	} {
		fails(t, x.name, begin().own(1, x.lit, []int{1, 1}), "", 9, api.ErrForm)
		fails(t, x.name, begin().own(1, x.lit, []int{0}).put(0, 24), "", 9, api.ErrForm)
	}
	alone := with(257, 256, 1)
	tells(t, "the end alone", begin().own(1, alone, []int{0}).end(), "")
	fails(t, "not the end", begin().own(1, alone, []int{0}).put(1, 1), "", 9, api.ErrForm)
	fails(t, "no bit", begin().own(1, alone, []int{0}), "", 9, api.ErrShort)
}

func TestP701CodeOfDistances(t *testing.T) {
	lit := with(258, 'a', 1, 256, 2, 257, 2)
	for _, dist := range [][]int{{2}, {0, 15}, {1, 2}, {2, 2}, {2, 2, 2}, {1, 1, 1}, {1, 1, 15}, many(30, 5), many(30, 4), with(30, 29, 2)} {
		fails(t, "not complete", begin().own(1, lit, dist), "", 9, api.ErrForm)
		fails(t, "not complete, not used", begin().own(1, lit, dist).end(), "", 9, api.ErrForm)
	}
	for _, n := range []int{1, 2, 30} {
		tells(t, "none, not used", begin().own(1, lit, make([]int, n)).text("aaa").end(), "aaa")
		fails(t, "none", begin().own(1, lit, make([]int, n)).text("a").sym(257).put(0, 1), "", 9, api.ErrForm)
		fails(t, "none", begin().own(1, lit, make([]int, n)).text("a").sym(257).put(1, 1), "", 9, api.ErrForm)
		fails(t, "none, no bit", begin().own(1, lit, make([]int, n)).text("a").sym(257), "", 9, api.ErrShort)
	}
	for n := range 30 {
		back := distanceBases[n]
		ahead := strings.Repeat("a", back)
		b := begin().stored(0, ahead).own(1, lit, with(30, n, 1)).sym(257).far(n).put(0, distanceExtra[n]).end()
		tells(t, "one of one bit", b, ahead+"aaa")
		fails(t, "not that one", begin().own(1, lit, with(30, n, 1)).sym(257).put(1, 1), "abc", 9, api.ErrForm)
	}
	tells(t, "complete", begin().own(1, lit, []int{1, 0, 1}).text("a").sym(257).far(0).sym(257).far(2).end(), "aaaaaaa")
}

func TestP702Length(t *testing.T) {
	for k, base := range lengthBases {
		if b, x, ok := inflate.Length(257 + k); b != base || x != lengthExtra[k] || !ok {
			t.Errorf("Length(%d): %d, %d, %v", 257+k, b, x, ok)
		}
	}
	for _, sym := range []int{256, 286, 287, 0, -1, 1, 258 - 512, 288, 1 << 40, math.MinInt, math.MaxInt} {
		if b, x, ok := inflate.Length(sym); b != 0 || x != 0 || ok {
			t.Errorf("Length(%d): %d, %d, %v", sym, b, x, ok)
		}
	}
}

func TestP702Distance(t *testing.T) {
	for sym, base := range distanceBases {
		if b, x, ok := inflate.Distance(sym); b != base || x != distanceExtra[sym] || !ok {
			t.Errorf("Distance(%d): %d, %d, %v", sym, b, x, ok)
		}
	}
	for _, sym := range []int{30, 31, 32, -1, -2, 257, 1 << 40, math.MinInt, math.MaxInt} {
		if b, x, ok := inflate.Distance(sym); b != 0 || x != 0 || ok {
			t.Errorf("Distance(%d): %d, %d, %v", sym, b, x, ok)
		}
	}
}

// bytesOf: n bytes that do not come again soon.
func bytesOf(n int) string {
	b := make([]byte, n)
	rand.New(rand.NewSource(702)).Read(b)
	return string(b)
}

func TestP702Literals(t *testing.T) {
	all := ""
	for c := range 256 {
		all += string([]byte{byte(c)})
	}
	tells(t, "fixed", begin().fixed(1).text(all).end(), all)
	lit := append(many(255, 8), 9, 9)
	tells(t, "own", begin().own(1, lit, []int{0}).text(all).end(), all)
	tells(t, "several blocks", begin().fixed(0).text(all).end().own(0, lit, []int{0}).text(all).end().fixed(0).end().fixed(1).end(), all+all)
}

// copied: s with a copy behind it, byte by byte.
func copied(s string, n, back int) string {
	b := []byte(s)
	for range n {
		b = append(b, b[len(b)-back])
	}
	return string(b)
}

// TestP702Copies: each length, each of the least and greatest distances, from behind what there is.
func TestP702Copies(t *testing.T) {
	all := bytesOf(32768)
	hold := func(n, back int, ahead string) {
		t.Helper()
		m := begin().fixed(0).copy(n, back).end()
		out, last, err := inflate.Block(m.reader(), []byte(ahead), len(ahead)+n)
		if err != api.OK || last || string(out) != copied(ahead, n, back) {
			t.Fatalf("%d bytes, %d behind: %d bytes, %v, %v", n, back, len(out), last, err)
		}
	}
	for n := 3; n <= 258; n++ {
		for _, back := range []int{1, 2, 3, n - 1, n, n + 1, 300} {
			hold(n, back, all[:300])
		}
	}
	for sym, base := range distanceBases {
		for _, back := range []int{base, base + 1<<distanceExtra[sym] - 1, base + 1<<distanceExtra[sym]/2} {
			hold(3, back, all)
			hold(258, back, all[:back])
		}
	}
	tells(t, "the greatest length by another symbol", begin().fixed(1).text("a").sym(284).put(31, 5).far(0).end(), strings.Repeat("a", 259))
}

func TestP702TooFar(t *testing.T) {
	fails(t, "nothing there", begin().fixed(1).copy(3, 1), "", 9, api.ErrForm)
	fails(t, "one too far", begin().fixed(1).text("ab").copy(3, 3), "", 9, api.ErrForm)
	tells(t, "as far as may be", begin().fixed(1).text("ab").copy(3, 2).end(), "ababa")
	tells(t, "into the block ahead", begin().stored(0, "abc").fixed(1).copy(4, 3).end(), "abcabca")
	tells(t, "into that ahead of it", begin().stored(0, "abc").stored(0, "").fixed(1).text("d").copy(4, 4).end(), "abcdabcd")
	if _, err := check(t, begin().stored(0, "abc").fixed(1).copy(4, 4).end().Done(), 99); err != api.ErrForm {
		t.Error(err)
	}
	for sym, base := range distanceBases {
		back := base + 1<<distanceExtra[sym] - 1
		ahead := bytesOf(back)
		fails(t, "one too far", begin().fixed(1).copy(3, back), ahead[1:], api.MaxFile, api.ErrForm)
		fails(t, "its bits end", begin().fixed(1).sym(257).far(sym).put(0, max(0, distanceExtra[sym]-1)), "", 9, []api.Errno{api.ErrForm, api.ErrShort}[min(1, distanceExtra[sym])])
	}
}

// TestP702NoSuchSymbols are met as soon as they were read.
func TestP702NoSuchSymbols(t *testing.T) {
	for _, sym := range []int{286, 287} {
		fails(t, "length", begin().fixed(1).text("abc").sym(sym), "", 9, api.ErrForm)
		fails(t, "length", begin().fixed(1).text("abc").sym(sym).far(0).end(), "", 9, api.ErrForm)
	}
	for _, sym := range []int{30, 31} {
		fails(t, "distance", begin().fixed(1).text("abc").sym(257).far(sym), "", 9, api.ErrForm)
		fails(t, "distance", begin().fixed(1).text("abc").sym(257).far(sym).put(0, 24).end(), "", 9, api.ErrForm)
	}
}

// wholes: streams that are right, each of one way at least that no other has.
func wholes() []*maker {
	lit := with(286, 'a', 2, 'b', 2, 256, 3, 257, 3, 265, 3, 285, 3)
	dist := with(30, 0, 1, 4, 2, 5, 2)
	return []*maker{
		begin().stored(1, "abc"),
		begin().stored(0, "").stored(1, "xyz"),
		begin().fixed(1).end(),
		begin().fixed(1).text("abc").copy(3, 1).copy(258, 3).copy(20, 200).text("\xFF\xFE").end(),
		begin().own(1, lit, dist).text("abab").copy(3, 1).copy(12, 6).copy(258, 8).end(),
		begin().told(1, lit, dist, most).text("abab").copy(3, 1).end(),
		begin().fixed(0).text("0123").end().stored(0, "4567").told(0, lit, dist, most).text("ab").copy(3, 8).end().stored(1, "c"),
	}
}

// TestP702Short: whatever bit they end ahead of.
func TestP702Short(t *testing.T) {
	for _, m := range wholes() {
		text := textOf(m.Done())[:m.Len()]
		for n := range len(text) {
			checkBlocks(t, text[:n], nil, 999)
		}
		b := m.Done()
		if _, err := check(t, b, 999); err != api.OK {
			t.Fatal(err)
		}
		for n := range len(b) {
			if _, err := check(t, b[:n], 999); err != api.ErrShort {
				t.Fatalf("%x, %d: %v", b, n, err)
			}
		}
	}
	fails(t, "nothing", begin(), "", 9, api.ErrShort)
	fails(t, "one bit", begin().put(1, 1), "", 9, api.ErrShort)
	fails(t, "two bits", begin().put(7, 2), "", 9, api.ErrShort)
	if out, used, err := inflate.Inflate(nil, 0); len(out) != 0 || used != 0 || err != api.ErrShort {
		t.Error(err)
	}
}

// TestP702Long: as many as there may be, and one more.
func TestP702Long(t *testing.T) {
	for _, m := range wholes() {
		b := m.Done()
		out, _ := check(t, b, 999)
		for n := range len(out) {
			if _, err := check(t, b, n); err != api.ErrLong {
				t.Fatalf("%x, %d: %v", b, n, err)
			}
		}
		for _, n := range []int{len(out), len(out) + 1, api.MaxFile} {
			if all, err := check(t, b, n); err != api.OK || !bytes.Equal(all, out) {
				t.Fatalf("%x, %d: %v", b, n, err)
			}
		}
	}
}

func TestP702MaxFile(t *testing.T) {
	m := begin().fixed(1).text("a")
	for n := 1; n < api.MaxFile; {
		step := min(258, api.MaxFile-n)
		m.copy(step, 1)
		n += step
	}
	tells(t, "as many as a file has", m.end(), strings.Repeat("a", api.MaxFile))
	if _, _, err := inflate.Inflate(m.Done(), api.MaxFile-1); err != api.ErrLong {
		t.Error(err)
	}
	long := begin().stored(0, bytesOf(65535)).stored(0, bytesOf(65535)).stored(0, bytesOf(65535)).stored(0, bytesOf(65535)).stored(0, "abcd")
	if out, used, err := inflate.Inflate(long.stored(1, "e").Done(), api.MaxFile); err != api.ErrLong || len(out) != 0 || used != 0 {
		t.Error(err)
	}
}

func TestP702WrongMost(t *testing.T) {
	for _, most := range []int{-1, -2, math.MinInt, api.MaxFile + 1, 1 << 32, math.MaxInt} {
		for _, b := range [][]byte{nil, {3, 0}, {7}, {1, 3, 0, 0xFC, 0xFF, 'a', 'b', 'c'}} {
			if out, used, err := inflate.Inflate(b, most); len(out) != 0 || used != 0 || err != api.ErrArg {
				t.Errorf("Inflate(%x, %d): %x, %d, %v", b, most, out, used, err)
			}
		}
	}
}

// TestP702FirstMet: of several errors that of the bit that comes first.
func TestP702FirstMet(t *testing.T) {
	stored := func(n, turned int) *maker {
		m := begin().head(1, 0)
		m.Align()
		return m.put(n, 16).put(turned, 16)
	}
	lengthAlone := begin().head(1, 0)
	lengthAlone.Align()
	lengthAlone.put(3, 16)
	for _, x := range []struct {
		name string
		m    *maker
		out  string
		most int
		err  api.Errno
	}{
		{"a literal too many", begin().fixed(1).text("abc"), "", 2, api.ErrLong},
		{"a literal too many, none before", begin().fixed(1).text("a"), "", 0, api.ErrLong},
		{"a literal too many, a fault behind it", begin().fixed(1).text("abc").sym(286), "", 2, api.ErrLong},
		{"a fault ahead of one too many", begin().fixed(1).text("ab").sym(286).text("c"), "", 2, api.ErrForm},
		{"the end ahead of one too many", begin().fixed(1).text("abc"), "", 3, api.ErrShort},
		{"a length where there is no room, and no distance", begin().fixed(1).text("ab").sym(257), "", 2, api.ErrShort},
		{"a length cut", begin().fixed(1).text("ab").sym(284).put(0, 4), "", 2, api.ErrShort},
		{"a distance too far where there is no room", begin().fixed(1).text("ab").copy(3, 3), "", 2, api.ErrForm},
		{"a copy where there is no room", begin().fixed(1).text("ab").copy(3, 2), "", 2, api.ErrLong},
		{"a copy with too little room", begin().fixed(1).text("ab").copy(3, 2), "", 4, api.ErrLong},
		{"a copy with just that", begin().fixed(1).text("ab").copy(3, 2), "", 5, api.ErrShort},
		{"stored, too many, not one there", stored(3, ^3), "", 2, api.ErrLong},
		{"stored, too many, turned over wrong", stored(3, 3), "", 2, api.ErrLong},
		{"stored, too many, nothing behind", lengthAlone, "", 2, api.ErrLong},
		{"stored, its length alone", lengthAlone, "", 3, api.ErrShort},
		{"stored, turned over wrong, none there", stored(3, 3), "", 3, api.ErrForm},
		{"stored, none there", stored(3, ^3), "", 3, api.ErrShort},
		{"stored, behind what there is", stored(3, ^3), "ab", 4, api.ErrLong},
		{"stored, behind what there is, just that", stored(3, ^3), "ab", 5, api.ErrShort},
		{"stored, its turned length cut", begin().put(0, 8).put(0, 16).put(0, 8), "", 3, api.ErrShort},
		{"more than most ahead", begin(), "abc", 2, api.ErrLong},
		{"more than most ahead, kind 3", begin().head(1, 3), "abc", 2, api.ErrLong},
		{"more than most ahead, nothing more", begin().fixed(1).end(), "abc", 2, api.ErrLong},
		{"most below 0", begin().fixed(1).end(), "", -1, api.ErrLong},
		{"most below 0, stored", begin().stored(1, ""), "", math.MinInt, api.ErrLong},
	} {
		fails(t, x.name, x.m, x.out, x.most, x.err)
	}
}

// TestP702Used: what stands behind the last block is not touched.
func TestP702Used(t *testing.T) {
	for _, m := range wholes() {
		b := m.Done()
		for _, more := range []string{"", "\x00", "\xFF\xFF", bytesOf(40)} {
			if _, used, err := inflate.Inflate(append(slices.Clone(b), more...), 999); err != api.OK || used != len(b) {
				t.Errorf("%x and %x: %d, %v, not %d", b, more, used, err, len(b))
			}
		}
	}
}

func TestP702Blocks(t *testing.T) {
	m := begin().stored(0, "ab").fixed(0).text("c").copy(3, 3).end().fixed(1).end().stored(0, "x")
	r := m.reader()
	out := []byte("-")
	for k, want := range []struct {
		out  string
		last bool
	}{{"-ab", false}, {"-abcabc", false}, {"-abcabc", true}, {"-abcabcx", false}} {
		all, last, err := inflate.Block(r, out, 8)
		if err != api.OK || last != want.last || string(all) != want.out {
			t.Fatalf("%d: %q, %v, %v", k, all, last, err)
		}
		out = all
	}
	if r.Left() != 0 {
		t.Errorf("%d left", r.Left())
	}
	big := bytesOf(api.MaxFile)
	if all, last, err := inflate.Block(begin().stored(1, "x").reader(), []byte(big), api.MaxFile+1); err != api.OK || !last || string(all) != big+"x" {
		t.Errorf("%d bytes, %v, %v", len(all), last, err)
	}
	for _, m := range wholes() {
		for _, ahead := range []string{"", "a", bytesOf(300)} {
			checkBlocks(t, textOf(m.Done())[:m.Len()], []byte(ahead), 999)
		}
	}
}

// TestP5AfterAnError: the reader stands where it stood, and can be read from there.
func TestP5AfterAnError(t *testing.T) {
	m := begin().put(5, 3).fixed(1).text("abc").copy(9, 2).end()
	r := m.reader()
	r.Get(3)
	left, past := r.Left(), r.Past()
	for most := range 12 {
		if out, last, err := inflate.Block(r, nil, most); err != api.ErrLong || len(out) != 0 || last || r.Left() != left || r.Past() != past {
			t.Fatalf("%d: %v, %d left of %d", most, err, r.Left(), left)
		}
	}
	if out, last, err := inflate.Block(r, nil, 12); err != api.OK || !last || string(out) != copied("abc", 9, 2) || r.Left() != 0 {
		t.Errorf("%q, %v, %v", out, last, err)
	}
}

// grown: a complete code of that many symbols (two at least), by splits at random, among symbols without.
func grown(random *rand.Rand, symbols, size int) []int {
	l := []int{1, 1}
	for len(l) < symbols {
		k := random.Intn(len(l))
		if l[k] < 15 {
			l[k]++
			l = append(l, l[k])
		}
	}
	l = append(l, make([]int, size-symbols)...)
	random.Shuffle(len(l), func(i, j int) { l[i], l[j] = l[j], l[i] })
	return l
}

// someLiterals: a code that has the end.
func someLiterals(random *rand.Rand) []int {
	size := 257 + random.Intn(30)
	l := grown(random, 2+random.Intn(size-1), size)
	k := slices.IndexFunc(l, func(n int) bool { return n > 0 })
	if l[256] == 0 {
		l[256], l[k] = l[k], 0
	}
	return l
}

// someDistances: a complete code, or half of one.
func someDistances(random *rand.Rand) []int {
	size := 1 + random.Intn(30)
	switch {
	case size == 1 || random.Intn(4) == 0:
		return with(size, random.Intn(size), random.Intn(2))
	default:
		return grown(random, 2+random.Intn(size-1), size)
	}
}

// fill writes symbols that the codes have; those of the distances are near ones mostly, so that they are not too far.
func (m *maker) fill(random *rand.Rand, lit, dist []int) {
	for range random.Intn(60) {
		sym := random.Intn(len(lit))
		if lit[sym] == 0 || sym == 256 || sym > 285 && random.Intn(50) > 0 {
			continue
		}
		m.sym(sym)
		if sym < 257 || sym > 285 {
			continue
		}
		m.put(random.Int(), lengthExtra[sym-257])
		far := random.Intn(len(dist))
		for dist[far] == 0 || far > 12 && random.Intn(20) > 0 {
			if far = random.Intn(len(dist)); random.Intn(40) == 0 {
				break
			}
		}
		m.far(far)
		if far < 30 {
			m.put(random.Int()&(1<<random.Intn(14)-1), distanceExtra[far])
		}
	}
	if random.Intn(30) > 0 {
		m.end()
	}
}

// someStream: a few blocks at random, right for the most part.
func someStream(random *rand.Rand) []byte {
	m := begin()
	for n := random.Intn(3); n >= 0; n-- {
		last := 0
		if n == 0 {
			last = 1
		}
		switch random.Intn(5) {
		case 0:
			m.stored(last, bytesOf(random.Intn(40)))
		case 1:
			m.fixed(last).fill(random, fixedLiterals(), many(32, 5))
		default:
			lit, dist := someLiterals(random), someDistances(random)
			if random.Intn(10) == 0 {
				lit[random.Intn(len(lit))] = random.Intn(16)
			}
			if random.Intn(10) == 0 {
				dist[random.Intn(len(dist))] = random.Intn(16)
			}
			m.told(last, lit, dist, random.Intn).fill(random, lit, dist)
		}
	}
	return m.Done()
}

// spoilt: b with some bits turned, or cut, or with something behind it.
func spoilt(random *rand.Rand, b []byte) []byte {
	b = slices.Clone(b)
	switch random.Intn(4) {
	case 0:
		for range 1 + random.Intn(3) {
			b[random.Intn(len(b))] ^= 1 << random.Intn(8)
		}
	case 1:
		b = b[:random.Intn(len(b)+1)]
	case 2:
		b = append(b, bytesOf(3)...)
	}
	return b
}

// TestP701Random: streams right and wrong, against the model; each error, and none, comes often.
func TestP701Random(t *testing.T) {
	random := rand.New(rand.NewSource(701))
	seen := map[api.Errno]int{}
	for range 4000 {
		b := spoilt(random, someStream(random))
		most := 1 << random.Intn(19)
		out, err := check(t, b, most)
		seen[err]++
		if err == api.OK && len(out) > 0 {
			check(t, b, len(out))
			check(t, b, len(out)-1)
		}
		if len(b) < 200 {
			checkBlocks(t, textOf(b)[random.Intn(8*len(b)+1):], []byte(bytesOf(random.Intn(9))), 9+random.Intn(200))
		}
	}
	for _, err := range []api.Errno{api.OK, api.ErrForm, api.ErrShort, api.ErrLong} {
		if seen[err] < 200 {
			t.Errorf("%v: %d times", err, seen[err])
		}
	}
}

// TestP702Noise: bytes at random, of each kind of block.
func TestP702Noise(t *testing.T) {
	random := rand.New(rand.NewSource(703))
	for n := range 20000 {
		b := make([]byte, 1+random.Intn(60))
		random.Read(b)
		b[0] = b[0]&^7 | byte(n&7)
		check(t, b, random.Intn(100))
	}
}

// someText: letters of an alphabet of so many, with pieces that come again.
func someText(random *rand.Rand, n, letters int) []byte {
	var b []byte
	for len(b) < n {
		if len(b) > 0 && random.Intn(3) == 0 {
			at := random.Intn(len(b))
			b = append(b, b[at:min(len(b), at+random.Intn(400))]...)
		} else {
			b = append(b, byte(random.Intn(letters)))
		}
	}
	return b[:n]
}

// TestP701OfOthers: what the library's own writer makes, at each of its levels.
func TestP701OfOthers(t *testing.T) {
	random := rand.New(rand.NewSource(704))
	for _, n := range []int{0, 1, 2, 100, 5000, 70000, api.MaxFile} {
		for _, letters := range []int{1, 2, 30, 256} {
			text := someText(random, n, letters)
			for level := -2; level <= 9; level++ {
				var z bytes.Buffer
				w, err := flate.NewWriter(&z, level)
				if err != nil {
					t.Fatal(err)
				}
				w.Write(text[:n/3])
				w.Flush()
				w.Write(text[n/3:])
				w.Close()
				out, used, no := inflate.Inflate(append(z.Bytes(), 9), n)
				if no != api.OK || used != z.Len() || !bytes.Equal(out, text) {
					t.Fatalf("%d bytes of %d letters, level %d: %d bytes, %d, %v", n, letters, level, len(out), used, no)
				}
			}
		}
	}
}

// TestP701AsOthers: what comes out is what the library's own reader tells.
func TestP701AsOthers(t *testing.T) {
	random := rand.New(rand.NewSource(705))
	right := 0
	for range 2000 {
		b := spoilt(random, someStream(random))
		out, used, err := inflate.Inflate(b, api.MaxFile)
		if err != api.OK {
			continue
		}
		right++
		in := bytes.NewReader(b)
		all, no := io.ReadAll(flate.NewReader(in))
		if no != nil || !bytes.Equal(all, out) || used != len(b)-in.Len() {
			t.Fatalf("%x: %d bytes, %d, not %d, %d, %v", b, len(out), used, len(all), len(b)-in.Len(), no)
		}
	}
	if right < 300 {
		t.Errorf("%d right", right)
	}
}

// TestP1ManyBlocks: blocks that make nothing take no time that grows with what is there.
func TestP1ManyBlocks(t *testing.T) {
	m := begin()
	for range 4 {
		m.stored(0, bytesOf(65535))
	}
	for range 20000 {
		m.fixed(0).end()
	}
	if out, _, err := inflate.Inflate(m.stored(1, "").Done(), api.MaxFile); err != api.OK || len(out) != 4*65535 {
		t.Errorf("%d bytes, %v", len(out), err)
	}
}

func TestP2NothingChangedOrKept(t *testing.T) {
	for _, m := range wholes() {
		room := append(m.Done(), "spare room"...)
		b := room[:len(room)-10]
		was := bytes.Clone(room)
		out, _, _ := inflate.Inflate(b, 999)
		if !bytes.Equal(room, was) {
			t.Fatalf("%x: changed", b)
		}
		want := bytes.Clone(out)
		clear(room)
		if !bytes.Equal(out, want) {
			t.Fatalf("%x: kept", was)
		}
	}
	ahead := []byte("abcdefgh")
	out, _, err := inflate.Block(begin().stored(1, "xyz").reader(), ahead[:3], 9)
	if err != api.OK || string(ahead) != "abcdefgh" || string(out) != "abcxyz" {
		t.Fatalf("%q, %q, %v", ahead, out, err)
	}
	ahead[0] = '!'
	if string(out) != "abcxyz" {
		t.Errorf("kept: %q", out)
	}
	same, _, _ := inflate.Block(begin().fixed(1).end().reader(), ahead[:3], 9)
	clear(same[:cap(same)])
	if string(ahead) != "!bcdefgh" {
		t.Errorf("shared: %q", ahead)
	}
	lit, dist := inflate.Fixed()
	clear(lit[:cap(lit)])
	if !slices.Equal(dist, many(32, 5)) {
		t.Error("lists that share")
	}
}

func TestP3TheSameAgain(t *testing.T) {
	for _, m := range wholes() {
		b := m.Done()
		first, used, err := inflate.Inflate(b, 999)
		for range 3 {
			if out, n, no := inflate.Inflate(b, 999); !bytes.Equal(out, first) || n != used || no != err {
				t.Fatalf("%x: %x, %d, %v", b, out, n, no)
			}
		}
	}
}

// FuzzP702: whatever the bytes, what the model tells of them.
func FuzzP702(f *testing.F) {
	for _, m := range wholes() {
		f.Add(m.Done(), 999)
	}
	f.Add([]byte{7}, -1)
	f.Add([]byte{1, 3, 0, 0xFC, 0xFF, 'a'}, 2)
	f.Fuzz(func(t *testing.T, b []byte, most int) {
		if most < 0 || most > api.MaxFile {
			if out, used, err := inflate.Inflate(b, most); len(out) != 0 || used != 0 || err != api.ErrArg {
				t.Fatalf("Inflate(%x, %d): %x, %d, %v", b, most, out, used, err)
			}
			return
		}
		check(t, b, most)
		checkBlocks(t, textOf(b), nil, most)
	})
}
