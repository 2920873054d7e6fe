package lz_test

import (
	"bytes"
	"math"
	"math/rand"
	"slices"
	"strings"
	"testing"

	"trove/api"
	"trove/lz"
)

// edges: lengths and distances around each bound, and far from all of them.
func edges() []int {
	return []int{
		math.MinInt, math.MinInt + 3, -1 << 32, -32768, -258, -3, -2, -1, 0, 1, 2, 3, 4, 5, 255, 256, 257, 258, 259, 260, 261, 514, 515, 516,
		32766, 32767, 32768, 32769, 32770, 65535, 65536, 65539, 1 << 32, 1<<32 + 3, math.MaxInt - 1, math.MaxInt,
	}
}

// TestP801EachToken: tokens of all edges behind nothing, behind few bytes and behind many.
func TestP801EachToken(t *testing.T) {
	for _, n := range []int{0, 1, 2, 3, 4, 258, 259, 32767, 32768, 32769} {
		ahead := text(strings.Repeat("a", n))
		for _, length := range edges() {
			for _, dist := range edges() {
				for _, c := range []byte{0, 1, 255} {
					x := lz.Token{Lit: c, Len: length, Dist: dist}
					isLiteral := length == 0 && dist == 0
					isCopy := c == 0 && length >= 3 && length <= 258 && dist >= 1 && dist <= 32768 && dist <= n
					want := api.ErrForm
					if isLiteral || isCopy {
						want = api.OK
					}
					if err := lz.Check(append(ahead, x)); err != want {
						t.Fatalf("%v behind %d: %v, not %v", x, n, err, want)
					}
				}
			}
		}
	}
}

func TestP801CheckByHand(t *testing.T) {
	for _, x := range []struct {
		name string
		l    []lz.Token
		want api.Errno
	}{
		{"none", nil, api.OK},
		{"the byte 0", text("\x00"), api.OK},
		{"the byte 255", text("\xFF"), api.OK},
		{"a copy of nothing", copies(again(3, 1)), api.ErrForm},
		{"a copy of the first byte", list(text("a"), copies(again(3, 1))), api.OK},
		{"ahead of it", list(text("a"), copies(again(3, 2))), api.ErrForm},
		{"a copy of itself", list(text("ab"), copies(again(3, 3))), api.ErrForm},
		{"of what a copy made", list(text("a"), copies(again(3, 1), again(3, 4))), api.OK},
		{"ahead of it", list(text("a"), copies(again(3, 1), again(3, 5))), api.ErrForm},
		{"of the longest", list(text("a"), copies(again(258, 1), again(258, 259))), api.OK},
		{"ahead of it", list(text("a"), copies(again(258, 1), again(258, 260))), api.ErrForm},
		{"too short", list(text("abc"), copies(again(2, 3))), api.ErrForm},
		{"too long", list(text("abc"), copies(again(259, 3))), api.ErrForm},
		{"with a byte", list(text("abc"), copies(lz.Token{Lit: 'a', Len: 3, Dist: 3})), api.ErrForm},
		{"a literal with a distance", list(text("abc"), copies(lz.Token{Lit: 'a', Dist: 3})), api.ErrForm},
		{"without a distance", list(text("abc"), copies(again(3, 0))), api.ErrForm},
		{"forwards", list(text("abc"), copies(again(3, -1))), api.ErrForm},
		{"a length below 0", list(text("abc"), copies(again(-3, 3))), api.ErrForm},
		{"a length below 0, no distance", list(text("abc"), copies(again(-1, 0))), api.ErrForm},
		{"a wrong one ahead of right ones", list(copies(again(3, 1)), text("abc")), api.ErrForm},
		{"a wrong one between", list(text("abc"), copies(again(3, 9)), text("abcdef")), api.ErrForm},
		{"one that what stands behind it would fill", list(text("a"), copies(again(3, 2)), text("a")), api.ErrForm},
	} {
		if err := lz.Check(x.l); err != x.want {
			t.Errorf("%s: %v, not %v", x.name, err, x.want)
		}
		if out, err := lz.Expand(x.l, 1000); err != x.want || len(out) > 0 && err != api.OK {
			t.Errorf("%s: Expand: %q, %v, not %v", x.name, out, err, x.want)
		}
	}
}

// TestP801Farthest: 32768 bytes behind, made by literals or by copies, and one more.
func TestP801Farthest(t *testing.T) {
	ahead := list(text("xyz"), slices.Repeat(copies(again(258, 3)), 126), text(strings.Repeat("-", 257)))
	for _, x := range []struct {
		more, dist int
		want       api.Errno
	}{{0, 32768, api.OK}, {0, 32769, api.ErrForm}, {1, 32768, api.OK}, {1, 32769, api.ErrForm}, {9, 32768, api.OK}, {9, 32777, api.ErrForm}} {
		l := list(ahead, text(strings.Repeat("-", x.more)), copies(again(4, x.dist)))
		if err := lz.Check(l); err != x.want {
			t.Errorf("%v: %v", x, err)
		}
		checkTokens(t, l, 40000)
	}
	out, err := lz.Expand(list(ahead, copies(again(4, 32768))), 40000)
	if err != api.OK || len(out) != 32772 || string(out[32768:]) != "xyzx" {
		t.Errorf("%d bytes, %v", len(out), err)
	}
	if err := lz.Check(list(ahead[1:], copies(again(4, 32768)))); err != api.ErrForm {
		t.Errorf("one byte fewer: %v", err)
	}
}

func TestP801Size(t *testing.T) {
	for _, x := range []struct {
		l    []lz.Token
		want int
	}{
		{nil, 0},
		{text("a"), 1},
		{text("abc"), 3},
		{list(text("a"), copies(again(3, 1))), 4},
		{list(text("a"), copies(again(258, 1))), 259},
		{copies(again(258, 1)), 258}, // what may not be has a size too
		{copies(again(1, 1), again(2, 1)), 3},
		{copies(again(0, 7)), 1},
		{copies(lz.Token{Lit: 9, Len: 7, Dist: -1}), 7},
		{copies(again(-1, 1)), 0},
		{copies(again(259, 1)), 0},
		{copies(again(math.MinInt, 0), again(math.MaxInt, 0), again(-3, 3), again(1<<32+3, 3)), 0},
		{list(text("ab"), copies(again(-1, 1), again(5, 1), again(300, 1))), 7},
	} {
		if n := lz.Size(x.l); n != x.want {
			t.Errorf("%v: %d, not %d", x.l, n, x.want)
		}
	}
}

// TestP801SizeIsCut: just a file's bytes, and more.
func TestP801SizeIsCut(t *testing.T) {
	for _, n := range []int{api.MaxFile - 1, api.MaxFile, api.MaxFile + 1, api.MaxFile + 2, 2 * api.MaxFile} {
		want := min(n, api.MaxFile+1)
		if got := lz.Size(make([]lz.Token, n)); got != want {
			t.Errorf("%d literals: %d", n, got)
		}
		l := list(slices.Repeat(copies(again(256, 1)), n/256), make([]lz.Token, n%256))
		if got := lz.Size(l); got != want {
			t.Errorf("%d bytes of copies: %d", n, got)
		}
		l = list(l, slices.Repeat(copies(again(-258, 1), again(259, 1)), 1000))
		if got := lz.Size(l); got != want {
			t.Errorf("%d bytes, and tokens that make none: %d", n, got)
		}
	}
	if got := lz.Size(slices.Repeat(copies(again(258, 1)), 1<<20)); got != api.MaxFile+1 {
		t.Errorf("many: %d", got)
	}
}

func TestP801ExpandByHand(t *testing.T) {
	for _, x := range []struct {
		l    []lz.Token
		want string
	}{
		{nil, ""},
		{text("\x00\xFF"), "\x00\xFF"},
		{list(text("a"), copies(again(5, 1))), "aaaaaa"},
		{list(text("ab"), copies(again(5, 2))), "abababa"},
		{list(text("abc"), copies(again(3, 3))), "abcabc"},
		{list(text("abcd"), copies(again(3, 3))), "abcdbcd"},
		{list(text("abcd"), copies(again(3, 4)), text("!"), copies(again(4, 5))), "abcdabc!dabc"},
		{list(text("x"), copies(again(258, 1))), strings.Repeat("x", 259)},
	} {
		for _, most := range []int{len(x.want), len(x.want) + 1, api.MaxFile, math.MaxInt} {
			if out, err := lz.Expand(x.l, most); err != api.OK || string(out) != x.want {
				t.Errorf("%v, %d: %q, %v", x.l, most, out, err)
			}
		}
		for _, most := range []int{len(x.want) - 1, -1, -2, math.MinInt} {
			if out, err := lz.Expand(x.l, most); err != api.ErrLong || len(out) != 0 {
				t.Errorf("%v, %d: %q, %v", x.l, most, out, err)
			}
		}
	}
}

// TestP801CopiesOfThemselves: each distance with lengths below it, of it and above it.
func TestP801CopiesOfThemselves(t *testing.T) {
	row := strings.Repeat("0123456789abcdefghijklmnopqrstuvwxyz-", 9)
	for n := 1; n <= 300; n++ {
		for _, length := range []int{3, 4, n - 1, n, n + 1, 2*n - 1, 2 * n, 2*n + 1, 257, 258} {
			if length >= 3 && length <= 258 {
				checkTokens(t, list(text(row[:n]), copies(again(length, n))), n+length-1, n+length)
				checkTokens(t, list(text(row[:n]), copies(again(length, n/2+1))), n+length-1, n+length)
			}
		}
	}
}

// TestP801ExpandErrors: a token that may not be goes ahead of too many bytes, wherever it stands.
func TestP801ExpandErrors(t *testing.T) {
	long := text("abcdef")
	for _, most := range []int{math.MinInt, -1, 0, 1, 5, 6, 7, math.MaxInt} {
		for k := range len(long) + 1 {
			for _, x := range []lz.Token{again(3, 7), again(2, 1), again(259, 1), again(-1, 1), again(3, 0), again(0, 1), {Lit: 1, Len: 3, Dist: 1}} {
				if out, err := lz.Expand(slices.Insert(slices.Clone(long), k, x), most); err != api.ErrForm || len(out) != 0 {
					t.Errorf("%v at %d, %d: %q, %v", x, k, most, out, err)
				}
			}
		}
	}
}

// TestP801ExpandMany: what Size cuts is told by Expand as it is.
func TestP801ExpandMany(t *testing.T) {
	l := list(text("ab"), slices.Repeat(copies(again(256, 2)), 4096)) // a million bytes and two
	want := bytes.Repeat([]byte("ab"), 1+128*4096)
	if out, err := lz.Expand(l, len(want)); err != api.OK || !bytes.Equal(out, want) {
		t.Errorf("%d bytes, %v", len(out), err)
	}
	for _, most := range []int{0, api.MaxFile, api.MaxFile + 1, api.MaxFile + 2, len(want) - 1} {
		if out, err := lz.Expand(l, most); err != api.ErrLong || len(out) != 0 {
			t.Errorf("%d: %d bytes, %v", most, len(out), err)
		}
	}
	if err := lz.Check(l); err != api.OK {
		t.Error(err)
	}
	if out, err := lz.Expand(slices.Repeat(copies(lit('a'), again(258, 1)), 1<<20), 1000); err != api.ErrLong || len(out) != 0 {
		t.Errorf("%d bytes, %v", len(out), err)
	}
}

// eachList calls do with every list of at most n of these tokens.
func eachList(n int, of, ahead []lz.Token, do func(l []lz.Token)) {
	do(ahead)
	if n == 0 {
		return
	}
	for _, x := range of {
		eachList(n-1, of, append(slices.Clip(ahead), x), do)
	}
}

func TestP801EverySmallList(t *testing.T) {
	of := []lz.Token{lit('a'), lit(0), again(3, 1), again(4, 2), again(3, 4), again(2, 1), again(3, 0), again(0, 1), again(-1, 1), again(259, 1), {Lit: 'a', Len: 3, Dist: 1}}
	eachList(5, of, nil, func(l []lz.Token) { checkTokens(t, l, -1, 0, 3, 4, 7, 20) })
}

func TestP801RandomLists(t *testing.T) {
	random := rand.New(rand.NewSource(801))
	some := edges()
	for range 3000 {
		var l []lz.Token
		size := 0
		for range random.Intn(60) {
			x := lit(byte(random.Intn(256)))
			if size > 0 && random.Intn(2) == 0 {
				x = again(3+random.Intn(256), 1+random.Intn(min(size, 32768)))
			}
			if random.Intn(300) == 0 {
				x = lz.Token{Lit: byte(random.Intn(2)), Len: some[random.Intn(len(some))], Dist: some[random.Intn(len(some))]}
			}
			l = append(l, x)
			size += max(1, x.Len%259)
		}
		n := lz.Size(l)
		checkTokens(t, l, n-1, n, n+1)
	}
}

// efforts: none, some, and more than there can be.
func efforts() []int {
	return []int{math.MinInt, -200, -1, 0, 1, 2, 3, 5, 16, 100, 199, 200, 201, 1000, 32768, math.MaxInt}
}

// mixed: random bytes of so many letters, with pieces that come again, near and far.
func mixed(random *rand.Rand, n, letters int) []byte {
	b := make([]byte, 0, n)
	for len(b) < n {
		b = append(b, byte(random.Intn(letters)))
		if random.Intn(8) == 0 {
			from := random.Intn(len(b))
			piece := b[from:min(len(b), from+1+random.Intn(400))]
			b = append(b, piece...)
		}
	}
	return b[:n]
}

// fibonacci: n bytes in which nearly everything comes again, but not as a row.
func fibonacci(n int) []byte {
	a, b := []byte{0}, []byte{0, 1}
	for len(b) < n {
		a, b = b, slices.Concat(b, a)
	}
	return b[:n]
}

// growing: runs of 3 to 257 bytes, that end each in another way.
func growing(random *rand.Rand, n int) []byte {
	var b []byte
	for k := 0; len(b) < n; k++ {
		b = append(b, bytes.Repeat([]byte{'a'}, 3+k%255)...)
		b = append(b, byte(random.Intn(256)), byte(random.Intn(256)))
	}
	return b[:n]
}

func TestP801FindByHand(t *testing.T) {
	for _, x := range []struct {
		b    string
		want []lz.Token
	}{
		{"", nil},
		{"a", text("a")},
		{"aaa", text("aaa")}, // too short for a copy
		{"aaaa", list(text("a"), copies(again(3, 1)))},
		{"abcab", text("abcab")},
		{"abcabc", list(text("abc"), copies(again(3, 3)))},
		{"abcabcabc", list(text("abc"), copies(again(6, 3)))},
		{"abcd-abcd!", list(text("abcd-"), copies(again(4, 5)), text("!"))},
		{strings.Repeat("x", 259), list(text("x"), copies(again(258, 1)))},
		{strings.Repeat("x", 260), list(text("x"), copies(again(258, 1)), text("x"))},
		{strings.Repeat("x", 261), list(text("x"), copies(again(258, 1)), text("xx"))},
		{strings.Repeat("x", 262), list(text("x"), copies(again(258, 1), again(3, 1)))},
	} {
		for _, effort := range efforts() {
			want := x.want
			if effort <= 0 {
				want = text(x.b)
			}
			if l := checkFind(t, []byte(x.b), effort); !slices.Equal(l, want) {
				t.Errorf("%q, %d: %v, not %v", x.b, effort, l, want)
			}
		}
	}
}

// TestP801FindEverySmall: all bytes of two letters, and of three.
func TestP801FindEverySmall(t *testing.T) {
	for _, x := range []struct{ letters, most int }{{2, 14}, {3, 8}} {
		for n, ways := 0, 1; n <= x.most; n, ways = n+1, ways*x.letters {
			for k := range ways {
				b := make([]byte, n)
				for at, left := 0, k; at < n; at, left = at+1, left/x.letters {
					b[at] = byte(left % x.letters)
				}
				for _, effort := range []int{0, 1, 2, 200} {
					checkFind(t, b, effort)
				}
			}
		}
	}
}

func TestP801FindRandom(t *testing.T) {
	random := rand.New(rand.NewSource(802))
	for _, letters := range []int{1, 2, 3, 10, 256} {
		for _, n := range []int{1, 2, 3, 4, 50, 257, 258, 259, 260, 1000, 5000, 32768, 32769, 70000} {
			for _, effort := range efforts() {
				checkFind(t, mixed(random, n, letters), effort)
			}
		}
	}
}

func TestP801FindMaxFile(t *testing.T) {
	random := rand.New(rand.NewSource(803))
	for name, b := range map[string][]byte{
		"one byte":    make([]byte, api.MaxFile),
		"two letters": mixed(random, api.MaxFile, 2),
		"all letters": mixed(random, api.MaxFile, 256),
		"fibonacci":   fibonacci(api.MaxFile),
		"growing":     growing(random, api.MaxFile),
	} {
		t.Run(name, func(t *testing.T) {
			for _, effort := range []int{math.MinInt, 0, 1, 200, math.MaxInt} {
				checkFind(t, b, effort)
				checkFind(t, b[1:], effort)
				for _, more := range []int{1, 2, api.MaxFile} {
					if l := lz.Find(append(slices.Clip(b), make([]byte, more)...), effort); len(l) != 0 {
						t.Errorf("%d more, %d: %d tokens", more, effort, len(l))
					}
				}
			}
		})
	}
}

// rows: rows of n bytes, those in whose chains most others stand between too.
func rows(random *rand.Rand, n int) [][]byte {
	run := bytes.Repeat([]byte{'a'}, n)
	last, first, middle := bytes.Clone(run), bytes.Clone(run), bytes.Clone(run)
	last[n-1], first[0], middle[n/2] = 'b', 'b', 'b'
	turns := bytes.Repeat([]byte("ab"), n)[:n]
	return [][]byte{run, last, first, middle, turns, mixed(random, n, 2), mixed(random, n, 3), mixed(random, n, 256), fibonacci(max(n, 2))[:n]}
}

func TestP801Rows(t *testing.T) {
	random := rand.New(rand.NewSource(804))
	for n := 1; n <= 100; n++ {
		for _, row := range rows(random, n) {
			for _, size := range []int{n, n + 1, n + 2, n + 3, 2 * n, 110, 111, n + 258, n + 259, n + 260, n + 261, 999, 1000, 5000 + random.Intn(999)} {
				for _, effort := range []int{200, 201, 1000, math.MaxInt} {
					checkRow(t, row, size, effort)
				}
			}
		}
	}
}

func TestP801LongRows(t *testing.T) {
	random := rand.New(rand.NewSource(805))
	for _, n := range []int{1, 2, 3, 64, 99, 100} {
		for _, row := range rows(random, n) {
			for _, size := range []int{32768, 32769, 40000, api.MaxFile - 1, api.MaxFile} {
				checkRow(t, row, size, 200)
			}
			checkRow(t, row, api.MaxFile, math.MaxInt)
		}
	}
}

// TestP801FindFarthest: what comes again is found as far behind as a copy may lead, and not farther.
func TestP801FindFarthest(t *testing.T) {
	for _, dist := range []int{32767, 32768, 32769, 32770, 65536} {
		b := slices.Concat([]byte("abcde"), make([]byte, dist-5), []byte("abcde"))
		for _, effort := range []int{1, 200, math.MaxInt} {
			l := checkFind(t, b, effort)
			found := l[len(l)-1] == again(5, dist)
			if found != (dist <= 32768) {
				t.Errorf("%d, %d: %v", dist, effort, l[len(l)-1])
			}
		}
	}
}

// decoys: a long piece, n shorter ones that begin like it, and the long one once more, behind a byte at which every copy ends.
func decoys(n int) []byte {
	long := "abcdefghijklmnop"
	b := []byte(long)
	for k := range n {
		b = append(b, 'a', 'b', 'c', byte(128+k%128))
	}
	return append(append(b, '!'), long...)
}

// TestP801EffortBoundsTheWalk: what stands behind so many others is met by an effort of one more than they are, and by no smaller one.
func TestP801EffortBoundsTheWalk(t *testing.T) {
	for _, n := range []int{0, 1, 2, 5, 100, 199, 200, 500} {
		b := decoys(n)
		for _, effort := range efforts() {
			l := checkFind(t, b, effort)
			found := l[len(l)-1] == again(16, len(b)-16)
			if found != (effort > n) {
				t.Errorf("%d others, %d: %v", n, effort, l[len(l)-1])
			}
		}
	}
}

// TestP801UnlikeBytesTakeNoStep: places whose three bytes are not all the same stand in no walk.
func TestP801UnlikeBytesTakeNoStep(t *testing.T) {
	for _, other := range []string{"Xbc", "aXc", "abX", "bca", "cba", "acb", "bac"} {
		b := "abcdef" + strings.Repeat("-"+other, 9) + "!abcdef"
		l := checkFind(t, []byte(b), 1)
		if l[len(l)-1] != again(6, len(b)-6) {
			t.Errorf("%q: %v", b, l)
		}
	}
}

// TestP801WithinCopies: what a copy made is found again from any of its places on.
func TestP801WithinCopies(t *testing.T) {
	b := []byte("0123456789+0123456789")
	for k := range 7 {
		all := slices.Concat(b, []byte("-"), b[11+k:14+k])
		l := checkFind(t, all, 1)
		if l[len(l)-1] != again(3, len(all)-3-11-k) {
			t.Errorf("%q: %v", all, l)
		}
	}
}

func TestP9Nearest(t *testing.T) {
	for _, effort := range []int{1, 2, 3, 200} {
		l := checkFind(t, []byte("abc1abc2abc3abc"), effort)
		if want := list(text("abc1"), copies(again(3, 4)), text("2"), copies(again(3, 4)), text("3"), copies(again(3, 4))); !slices.Equal(l, want) {
			t.Errorf("%d: %v", effort, l)
		}
	}
}

// TestP2NothingChangedOrKept: neither what is handed in, nor its spare room; and an answer is nobody else's.
func TestP2NothingChangedOrKept(t *testing.T) {
	spare := bytes.Repeat([]byte("abcabcx"), 50)
	was := bytes.Clone(spare)
	for _, effort := range []int{0, 1, 200} {
		l := lz.Find(spare[:100], effort)
		if !bytes.Equal(spare, was) {
			t.Fatalf("%d: changed", effort)
		}
		want := slices.Clone(l)
		more := lz.Find(spare[:100], effort)
		for k := range more[:cap(more)] {
			more[:cap(more)][k] = again(1, 1)
		}
		spare[3] = '!'
		if !slices.Equal(l, want) {
			t.Fatalf("%d: kept", effort)
		}
		spare[3] = was[3]
		if !slices.Equal(lz.Find(spare[:100], effort), want) {
			t.Fatalf("%d: not the same", effort)
		}
	}
	tokens := list(text("abc"), copies(again(5, 3), again(9, 9)))
	wasTokens := slices.Clone(tokens)
	out, _ := lz.Expand(tokens[:4], 9)
	lz.Check(tokens[:4])
	lz.Size(tokens[:4])
	if !slices.Equal(tokens, wasTokens) {
		t.Error("changed")
	}
	other, _ := lz.Expand(tokens[:4], 9)
	for k := range other[:cap(other)] {
		other[:cap(other)][k] = '?'
	}
	tokens[0].Lit = '?'
	if string(out) != "abcabcab" {
		t.Errorf("kept: %q", out)
	}
}

func TestP3TheSameAgain(t *testing.T) {
	random := rand.New(rand.NewSource(806))
	for _, letters := range []int{1, 2, 256} {
		b := mixed(random, 20000, letters)
		for _, effort := range []int{0, 1, 200} {
			l := lz.Find(b, effort)
			lz.Find(mixed(random, 500, 2), 7)
			if !slices.Equal(lz.Find(append(make([]byte, 0, 1<<16), b...), effort), l) {
				t.Errorf("%d letters, %d", letters, effort)
			}
		}
	}
}

func FuzzP801Find(f *testing.F) {
	f.Add([]byte("abcabcabcabd"), 1)
	f.Add(bytes.Repeat([]byte("aab"), 99), 200)
	f.Add([]byte{}, -1)
	f.Fuzz(func(t *testing.T, b []byte, effort int) {
		if len(b) > api.MaxFile {
			return
		}
		checkFind(t, b, effort)
		if len(b) > 0 {
			checkRow(t, b[:min(len(b), 100)], 3000, 200+max(0, effort%100))
		}
	})
}

// FuzzP801Tokens: four bytes a token, most of them near what may be.
func FuzzP801Tokens(f *testing.F) {
	f.Add([]byte{0, 'a', 0, 0, 1, 5, 1, 0}, 6)
	f.Add([]byte{0, 'a', 0, 0, 1, 1, 0, 0}, 5)
	f.Add([]byte{0, 'a', 0, 0, 2, 1, 0, 0}, -1)
	f.Fuzz(func(t *testing.T, b []byte, most int) {
		var l []lz.Token
		for ; len(b) >= 4; b = b[4:] {
			x := lit(b[1])
			switch b[0] % 4 {
			case 1:
				x = again(3+int(b[1]), 1+int(b[2])+int(b[3])<<8)
			case 2:
				x = again(int(b[1])*2-5, int(int8(b[2]))+int(b[3])<<8)
			case 3:
				x = lz.Token{Lit: b[1] & 1, Len: int(b[1]) >> 1, Dist: int(b[2])}
			}
			l = append(l, x)
		}
		n := lz.Size(l)
		checkTokens(t, l, most, n-1, n, n+1)
	})
}
