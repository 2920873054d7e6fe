package delta_test

import (
	"bytes"
	"math"
	"math/rand"
	"slices"
	"strings"
	"testing"

	"trove/api"
	"trove/delta"
)

// efforts: none, some, and more than there can be.
func efforts() []int {
	return []int{math.MinInt, -1, 0, 1, 2, 5, 100, math.MaxInt}
}

// someBytes: all kinds of them, n each.
func someBytes(random *rand.Rand, n int) map[string][]byte {
	steps := make([]byte, n)
	for k := range steps {
		steps[k] = byte(k / 16)
	}
	blocks := make([]byte, 0, n+17) // one block again and again, behind each of them a byte of its own
	for k := 0; len(blocks) < n; k++ {
		blocks = append(append(blocks, "the same, always"...), byte(random.Intn(256)))
	}
	return map[string][]byte{
		"one byte":     make([]byte, n),
		"noise":        noise(random, n, 256),
		"two letters":  noise(random, n, 2),
		"three":        noise(random, n, 3),
		"a row of 2":   period("ab", n),
		"a row of 5":   period("abcab", n),
		"a row of 16":  period("0123456789abcdef", n),
		"a row of 17":  period("0123456789abcdefg", n),
		"a row of 64":  period(string(noise(random, 64, 256)), n),
		"steps":        steps,
		"blocks":       blocks[:n],
		"last differs": append(make([]byte, n-1), 1),
	}
}

func TestP1302MakeByHand(t *testing.T) {
	base := "The quick brown fox jumps over the lazy dog."
	for _, x := range []struct{ base, target string }{
		{"", ""},
		{"", "a"},
		{"a", ""},
		{"a", "a"},
		{"a", "b"},
		{base, ""},
		{"", base},
		{base, base},
		{base, base[1:]},
		{base, base[:len(base)-1]},
		{base, base + base},
		{base + base, base},
		{base, strings.ToUpper(base)},
		{base, "some " + base + " others"},
		{base, base[20:] + base[:20]},
		{base[:15], base[:15]},
		{base[:16], base[:16] + base[:16]},
		{base[:16], base[:17]},
		{base[:17], base[:16]},
		{"", strings.Repeat(base, 9)},
		{base, strings.Repeat("x", 127)},
		{base, strings.Repeat("x", 128)},
		{base, strings.Repeat("x", 254)},
		{base, strings.Repeat("x", 255)},
	} {
		for _, effort := range efforts() {
			checkMake(t, []byte(x.base), []byte(x.target), effort)
		}
	}
	for _, effort := range efforts() {
		if d := delta.Make(nil, nil, effort); !bytes.Equal(d, []byte{0, 0}) {
			t.Errorf("of nothing: %x", d)
		}
	}
}

// TestP1302MakeEverySmall: all bases and targets of two letters.
func TestP1302MakeEverySmall(t *testing.T) {
	var all [][]byte
	for n := range 6 {
		for k := range 1 << n {
			b := make([]byte, n)
			for at := range b {
				b[at] = byte(k >> at & 1)
			}
			all = append(all, b)
		}
	}
	for _, base := range all {
		for _, target := range all {
			checkMake(t, base, target, 0)
			checkMake(t, base, target, 1)
			checkMake(t, bytes.Repeat(base, 9), bytes.Repeat(target, 9), 1)
		}
	}
}

func TestP1302MakeKinds(t *testing.T) {
	random := rand.New(rand.NewSource(1304))
	for _, n := range []int{1, 15, 16, 17, 100, 3000} {
		all := someBytes(random, n)
		for _, base := range all {
			for _, target := range all {
				for _, effort := range efforts() {
					checkMake(t, base, target, effort)
				}
			}
		}
	}
}

// mutated: b with pieces that are moved, taken out, put in, changed.
func mutated(random *rand.Rand, b []byte) []byte {
	out := bytes.Clone(b)
	for range 1 + random.Intn(6) {
		from := random.Intn(len(out) + 1)
		to := from + random.Intn(min(200, len(out)-from)+1)
		piece := bytes.Clone(out[from:to])
		switch random.Intn(4) {
		case 0:
			out = slices.Delete(out, from, to)
			out = insert(out, random.Intn(len(out)+1), piece)
		case 1:
			out = slices.Delete(out, from, to)
		case 2:
			out = insert(out, from, noise(random, random.Intn(300), 256))
		case 3:
			for k := from; k < to; k += 1 + random.Intn(40) {
				out[k] ^= byte(1 + random.Intn(255))
			}
		}
	}
	return out
}

func TestP1302MakeRandom(t *testing.T) {
	random := rand.New(rand.NewSource(1305))
	for _, letters := range []int{1, 2, 4, 256} {
		for range 400 {
			base := noise(random, random.Intn(3000), letters)
			target := mutated(random, base)
			for _, effort := range efforts() {
				checkMake(t, base, target, effort)
			}
		}
	}
}

func TestP1302MakeTooLong(t *testing.T) {
	most, more := make([]byte, api.MaxFile), make([]byte, api.MaxFile+1)
	for _, effort := range efforts() {
		for _, x := range [][2][]byte{{more, nil}, {nil, more}, {more, more}, {more, most}, {most, more}, {make([]byte, 2*api.MaxFile), nil}} {
			if d := delta.Make(x[0], x[1], effort); d != nil {
				t.Errorf("%d, %d bytes, %d: %d bytes", len(x[0]), len(x[1]), effort, len(d))
			}
		}
		checkMake(t, most, nil, effort)
		checkMake(t, nil, most, effort)
		checkMake(t, most, most, effort)
	}
}

func TestP1302MakeMaxFile(t *testing.T) {
	random := rand.New(rand.NewSource(1306))
	all := someBytes(random, api.MaxFile)
	for name, base := range all {
		t.Run(name, func(t *testing.T) {
			for _, target := range all {
				checkMake(t, base, target, 1)
				checkMake(t, base, target[1:], 50)
			}
			checkMake(t, base, slices.Concat(base[100000:], base[:100000]), 0)
			checkMake(t, base[1:], slices.Concat(base[100000:], base[:100000]), math.MaxInt)
		})
	}
}

// moreBytes: what is put in at a place of base: nothing, others, and such as stand there anyway.
func moreBytes(random *rand.Rand, base []byte, at int) [][]byte {
	n := 1 + random.Intn(10)
	l := [][]byte{nil, {byte(random.Intn(256))}, noise(random, 10, 256), []byte("something!")}
	l = append(l, base[max(0, at-n):at], base[at:min(len(base), at+n)], base[:n], base[len(base)-n:])
	return append(l, bytes.Repeat(base[min(at, len(base)-1):][:1], 10))
}

// TestP1302PutIn: at every place of bases of the least length, and around it.
func TestP1302PutIn(t *testing.T) {
	random := rand.New(rand.NewSource(1307))
	for _, n := range []int{64, 65, 79, 80, 127, 128, 300} {
		for _, base := range someBytes(random, n) {
			for at := range n + 1 {
				for _, more := range moreBytes(random, base, at) {
					for _, effort := range []int{1, 2, math.MaxInt} {
						checkInsert(t, base, at, more, effort)
					}
				}
			}
		}
	}
}

func TestP1302PutInLong(t *testing.T) {
	random := rand.New(rand.NewSource(1308))
	for _, n := range []int{2989, 2990, 3000, 65535, 65536, 65537, 131072, 200001, api.MaxFile - 10} {
		for _, base := range someBytes(random, n) {
			for _, at := range []int{0, 1, 7, 8, 15, 16, 17, 255, 256, n / 2, random.Intn(n), min(n, 65536), n - 17, n - 16, n - 8, n - 7, n - 1, n} {
				for _, more := range moreBytes(random, base, at) {
					checkInsert(t, base, at, more, 1)
				}
			}
		}
	}
	base := noise(random, api.MaxFile-10, 256)
	for _, effort := range []int{1, 200, math.MaxInt} {
		checkInsert(t, base, 131072, []byte("something!"), effort)
	}
}

// TestP1302PutInLikeBlocks: bases that mislead one who takes the first block of a sum: all of them begin alike, and go on each in another way.
func TestP1302PutInLikeBlocks(t *testing.T) {
	random := rand.New(rand.NewSource(1309))
	for _, gap := range []int{1, 2, 16, 17, 48} {
		var base []byte
		for len(base) < 6000 {
			base = append(append(base, "the same, always"...), noise(random, gap, 256)...)
		}
		for at := 0; at <= len(base); at += 1 + random.Intn(40) {
			for _, more := range [][]byte{[]byte("something!"), base[at:min(len(base), at+10)], []byte("the same")} {
				checkInsert(t, base, at, more, 1)
			}
		}
	}
}

// TestP1302BlocksAreFound: wherever they stand in target, and however far from their place in base.
func TestP1302BlocksAreFound(t *testing.T) {
	random := rand.New(rand.NewSource(1310))
	base := noise(random, 4000, 256)
	for shift := range 40 {
		for _, from := range []int{0, 1, 500, 512, 527, 1999} {
			target := slices.Concat(noise(random, shift, 256), base[from:from+1000], noise(random, 20, 256))
			if d := checkMake(t, base, target, 1); len(d) > 4+shift+20+3*6 {
				t.Errorf("%d bytes ahead of those from %d on: %d bytes", shift, from, len(d))
			}
		}
	}
	target := slices.Concat(base[2000:], base[:2000])
	if d := checkMake(t, base, target, 1); len(d) > 4+2*6 {
		t.Errorf("two halves: %d bytes", len(d))
	}
	var pieces []byte
	for k := range 50 {
		pieces = append(pieces, base[(k*1117)%3900:][:80]...)
	}
	if d := checkMake(t, base, pieces, 1); len(d) > 4+50*6 {
		t.Errorf("fifty pieces: %d bytes", len(d))
	}
	if d := checkMake(t, base, target, 0); len(d) < len(target) {
		t.Errorf("without effort: %d bytes", len(d))
	}
}

// TestP1302EveryBlockIsFound: of any bytes of base that hold a whole block.
func TestP1302EveryBlockIsFound(t *testing.T) {
	random := rand.New(rand.NewSource(1314))
	base := noise(random, 1000, 256)
	for from := range len(base) - 31 {
		piece := base[from : from+31]
		target := slices.Concat(noise(random, 20, 256), piece, noise(random, 20, 256))
		if d := checkMake(t, base, target, 1); len(d) > 3+21+6+21 {
			t.Errorf("from %d on: %d bytes", from, len(d))
		}
	}
}

// TestP1302EndsNeedNoEffort: what both begin and end with is copied anyway.
func TestP1302EndsNeedNoEffort(t *testing.T) {
	random := rand.New(rand.NewSource(1315))
	base := noise(random, 3000, 256)
	for _, at := range []int{0, 8, 15, 16, 1000, 2985, 2992, 3000} {
		checkInsert(t, base, at, []byte("something!"), 0)
		checkInsert(t, base, at, []byte("something!"), math.MinInt)
	}
}

// TestP1302EffortBoundsTheWalk: the block that goes on best is met by an effort of one more than stand ahead of it, and by no smaller one.
func TestP1302EffortBoundsTheWalk(t *testing.T) {
	random := rand.New(rand.NewSource(1311))
	block := "the same, always"
	long := noise(random, 800, 256)
	for _, n := range []int{0, 1, 2, 7, 100} {
		var base []byte
		for range n {
			base = slices.Concat(base, []byte(block), noise(random, 16, 256))
		}
		base = slices.Concat(base, []byte(block), long, noise(random, 16, 256))
		target := slices.Concat([]byte("!"), []byte(block), long[:15], []byte("?"))
		for _, effort := range efforts() {
			d := checkMake(t, base, target, effort)
			if found := len(d) < 16; found != (effort > n) {
				t.Errorf("%d others, %d: %d bytes", n, effort, len(d))
			}
		}
	}
}

func TestP9TheFirstOfBlocks(t *testing.T) {
	base := period("0123456789abcdef", 160)
	target := slices.Concat([]byte("!"), base[:40], []byte("?"))
	want := []delta.Op{data("!"), cut(0, 40), data("?")}
	for _, effort := range []int{1, 2, 100} {
		if _, _, l, err := delta.Parse(delta.Make(base, target, effort)); err != api.OK || !sameOps(l, want) {
			t.Errorf("%d: %v, %v", effort, l, err)
		}
	}
}

// TestP1302NeverLonger: no delta is longer than one that puts all of target.
func TestP1302NeverLonger(t *testing.T) {
	random := rand.New(rand.NewSource(1312))
	for range 2000 {
		base := noise(random, random.Intn(400), 1+random.Intn(3))
		target := mutated(random, base)
		plain := len(sizeOf(len(base))) + len(sizeOf(len(target))) + len(target) + (len(target)+126)/127
		for _, effort := range []int{0, 1, 5} {
			if d := checkMake(t, base, target, effort); len(d) > plain {
				t.Fatalf("%x, %x, %d: %d bytes, more than %d", base, target, effort, len(d), plain)
			}
		}
	}
}

func TestP3TheSameAgain(t *testing.T) {
	random := rand.New(rand.NewSource(1313))
	for _, letters := range []int{1, 2, 256} {
		base := noise(random, 5000, letters)
		target := mutated(random, base)
		for _, effort := range efforts() {
			d := delta.Make(base, target, effort)
			delta.Make(target, base, 3)
			roomy := append(make([]byte, 0, 1<<16), base...)
			if !bytes.Equal(delta.Make(roomy, target, effort), d) {
				t.Errorf("%d letters, %d", letters, effort)
			}
		}
	}
}

func FuzzP1302Make(f *testing.F) {
	f.Add([]byte("0123456789abcdef0123456789abcdef"), []byte("!456789abcdef0123456789abcdef"), 1)
	f.Add(period("ab", 99), period("ba", 99), 2)
	f.Add([]byte{}, []byte{}, -1)
	f.Fuzz(func(t *testing.T, base, target []byte, effort int) {
		if len(base) > 10000 || len(target) > 10000 {
			return
		}
		checkMake(t, base, target, effort)
		if len(base) >= 64 && len(target) > 0 {
			at := int(target[0]) % (len(base) + 1)
			checkInsert(t, base, at, target[:min(10, len(target))], max(1, effort))
		}
	})
}
