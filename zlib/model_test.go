package zlib_test

import (
	"bytes"
	"compress/flate"
	"hash/adler32"
	"io"
	"math"
	"math/rand"
	"slices"
	"testing"

	"trove/api"
	"trove/bits"
	"trove/inflate"
	"trove/limit"
	"trove/lz"
	"trove/zlib"
)

// efforts: none, small ones, great ones.
func efforts() []int { return []int{math.MinInt, -1, 0, 1, 2, 9, 200, math.MaxInt} }

// drawn: n bytes of so many letters.
func drawn(random *rand.Rand, n, letters int) []byte {
	b := make([]byte, n)
	for k := range b {
		b[k] = byte(random.Intn(letters))
	}
	return b
}

// skewed: n bytes of which the lower ones come the more often, the more so the smaller slope is.
func skewed(random *rand.Rand, n int, slope float64) []byte {
	b := make([]byte, n)
	for k := range b {
		b[k] = byte(min(255, random.ExpFloat64()*slope))
	}
	return b
}

// mixed: pieces that are drawn, skewed, alike, or stood there already.
func mixed(random *rand.Rand, n int) []byte {
	var b []byte
	for len(b) < n {
		size := 1 + random.Intn(1<<random.Intn(13))
		switch random.Intn(5) {
		case 0:
			b = append(b, drawn(random, size, 256)...)
		case 1:
			b = append(b, skewed(random, size, 1+20*random.Float64())...)
		case 2:
			b = append(b, bytes.Repeat([]byte{byte(random.Intn(256))}, size)...)
		default:
			if len(b) > 0 {
				from := random.Intn(len(b))
				b = append(b, b[from:min(len(b), from+size)]...)
			}
		}
	}
	return b[:n]
}

// storedSize is what P901 says of stored blocks, counted block by block.
func storedSize(n int) int {
	size := n + 5
	for ; n > 65535; n -= 65535 {
		size += 5
	}
	return size
}

// tells: this program's reader and the library's tell b of z, and touch all of it.
func tells(t *testing.T, z, b []byte) {
	t.Helper()
	more := append(slices.Clone(z), 0xFF, 0xFF)
	for _, most := range []int{len(b), api.MaxFile} {
		out, used, err := inflate.Inflate(more, most)
		if err != api.OK || used != len(z) || !bytes.Equal(out, b) {
			t.Fatalf("%d bytes: %d of them, %d of %d touched, %v", len(b), len(out), used, len(z), err)
		}
	}
	r := bytes.NewReader(more)
	if out, err := io.ReadAll(flate.NewReader(r)); err != nil || r.Len() != 2 || !bytes.Equal(out, b) {
		t.Fatalf("%d bytes: the library: %d of them, %d left, %v", len(b), len(out), r.Len(), err)
	}
}

// checkDeflate says what P901 promises of any bytes, and answers Deflate's.
func checkDeflate(t *testing.T, b []byte, effort int) []byte {
	t.Helper()
	z := zlib.Deflate(b, effort)
	tells(t, z, b)
	if len(z) > zlib.Bound(len(b))-6 || len(z) > storedSize(len(b)) {
		t.Fatalf("%d bytes, %d: %d", len(b), effort, len(z))
	}
	return z
}

// checkPack says what P902 promises of any bytes, and answers Pack's.
func checkPack(t *testing.T, b []byte, effort int) []byte {
	t.Helper()
	p := zlib.Pack(b, effort)
	if len(p) < 6 || len(p) > zlib.Bound(len(b)) || p[0] != 0x78 || (int(p[0])*256+int(p[1]))%31 != 0 || p[1]&0x20 != 0 {
		t.Fatalf("%d bytes, %d: %d, %x", len(b), effort, len(p), p[:min(len(p), 6)])
	}
	if !bytes.Equal(p[2:len(p)-4], zlib.Deflate(b, effort)) {
		t.Fatalf("%d bytes, %d: not Deflate's", len(b), effort)
	}
	v := adler32.Checksum(b)
	if !bytes.Equal(p[len(p)-4:], []byte{byte(v >> 24), byte(v >> 16), byte(v >> 8), byte(v)}) {
		t.Fatalf("%d bytes, %d: %x, not %x", len(b), effort, p[len(p)-4:], v)
	}
	return p
}

// slowUnpack says P902's reading once more, test by test.
func slowUnpack(z []byte, most int) ([]byte, int, api.Errno) {
	if len(z) < 2 {
		return nil, 0, api.ErrShort
	}
	if z[0]%16 != 8 || z[0]/16 > 7 {
		return nil, 0, api.ErrForm
	}
	if (256*int(z[0])+int(z[1]))%31 != 0 {
		return nil, 0, api.ErrForm
	}
	if z[1]/32%2 != 0 {
		return nil, 0, api.ErrForm
	}
	b, n, err := inflate.Inflate(z[2:], most)
	if err != api.OK {
		return nil, 0, err
	}
	if len(z) < 2+n+4 {
		return nil, 0, api.ErrShort
	}
	told := uint32(0)
	for _, v := range z[2+n : 2+n+4] {
		told = 256*told + uint32(v)
	}
	if told != adler32.Checksum(b) {
		return nil, 0, api.ErrSum
	}
	return b, 2 + n + 4, api.OK
}

// checkUnpack holds Unpack against that, and answers what it said.
func checkUnpack(t *testing.T, z []byte, most int) ([]byte, int, api.Errno) {
	t.Helper()
	want, wantUsed, wantErr := slowUnpack(z, most)
	b, used, err := zlib.Unpack(z, most)
	if err != wantErr || used != wantUsed || !bytes.Equal(b, want) {
		t.Fatalf("Unpack(%x, %d): %d bytes, %d, %v, not %d, %d, %v", z, most, len(b), used, err, len(want), wantUsed, wantErr)
	}
	return b, used, err
}

// place: a block's kind, and at which bit of a byte it begins.
type place struct{ kind, bit int }

// places: those of all blocks of z. No block is longer than if its bytes were stored, from where it begins on.
func places(t *testing.T, z []byte) []place {
	t.Helper()
	var l []place
	var out []byte
	r := bits.NewReader(z)
	for last := false; !last; {
		at, made := 8*len(z)-r.Left(), len(out)
		head := bits.NewReader(z[at/8:])
		head.Get(at%8 + 1)
		kind, _ := head.Get(2)
		l = append(l, place{kind, at % 8})
		var err api.Errno
		if out, last, err = inflate.Block(r, out, api.MaxFile); err != api.OK {
			t.Fatal(err)
		}
		began := (at + 3 + 7) / 8 * 8 // behind the head, filled up
		if n := 8*len(z) - r.Left(); n > began+8*(storedSize(len(out)-made)-1) {
			t.Errorf("a block of kind %d, of %d bytes, has %d bits from %d on", kind, len(out)-made, n-at, at)
		}
	}
	return l
}

// symbolOf: the last symbol up to last that tells no more than v, and its extra bits.
func symbolOf(v, last int, tell func(sym int) (base, extra int, ok bool)) (sym, extra int) {
	for sym := last; ; sym-- {
		if base, extra, _ := tell(sym); base <= v {
			return sym, extra
		}
	}
}

// costs: how many bits the tokens of b take as one block of the fixed codes, and as one of the best codes.
func costs(b []byte, effort int) (fixed, told int) {
	counts := [2][]int{make([]int, 286), make([]int, 30)}
	counts[0][256] = 1
	extra := 0
	for _, x := range lz.Find(b, effort) {
		if x.Len == 0 {
			counts[0][x.Lit]++
			continue
		}
		sym, n := symbolOf(x.Len, 285, inflate.Length)
		counts[0][sym]++
		far, m := symbolOf(x.Dist, 29, inflate.Distance)
		counts[1][far]++
		extra += n + m
	}
	fixedLit, fixedDist := inflate.Fixed()
	fixed = 3 + extra + costOf(fixedLit, counts[0]) + costOf(fixedDist, counts[1])
	lit, dist := bestOf(counts[0], 15), bestOf(counts[1], 15)
	told = 3 + extra + costOf(lit, counts[0]) + costOf(dist, counts[1])
	for len(lit) > 257 && lit[len(lit)-1] == 0 {
		lit = lit[:len(lit)-1]
	}
	for len(dist) > 1 && dist[len(dist)-1] == 0 {
		dist = dist[:len(dist)-1]
	}
	return fixed, told + tellingCost(slices.Concat(lit, dist))
}

func costOf(lens, counts []int) int {
	cost := 0
	for sym, n := range counts {
		cost += n * lens[sym]
	}
	return cost
}

func bestOf(counts []int, most int) []int {
	lens, _ := limit.Plain(counts)
	if slices.Max(lens) > most {
		lens, _ = limit.Lengths(counts, most)
	}
	return lens
}

// tellingCost: the bits of the lengths of codes, gone over run by run.
func tellingCost(row []int) int {
	counts := make([]int, 19)
	extra := 0
	for len(row) > 0 {
		same := 1
		for same < len(row) && row[same] == row[0] {
			same++
		}
		left := same
		if row[0] != 0 {
			counts[row[0]]++
			for left--; left >= 3; left -= min(left, 6) {
				counts[16]++
				extra += 2
			}
		} else {
			for ; left >= 11; left -= min(left, 138) {
				counts[18]++
				extra += 7
			}
			if left >= 3 {
				counts[17]++
				extra += 3
				left = 0
			}
		}
		counts[row[0]] += left
		row = row[same:]
	}
	lens := bestOf(counts, 7)
	told := 4
	for k, sym := range []int{16, 17, 18, 0, 8, 7, 9, 6, 10, 5, 11, 4, 12, 3, 13, 2, 14, 1, 15} {
		if lens[sym] > 0 {
			told = max(told, k+1)
		}
	}
	return 5 + 5 + 4 + 3*told + extra + costOf(lens, counts)
}
