package zlib_test

import (
	"bytes"
	"compress/flate"
	library "compress/zlib"
	"io"
	"math"
	"math/rand"
	"slices"
	"strings"
	"testing"

	"trove/api"
	"trove/inflate"
	"trove/zlib"
)

// TestP901ByHand: short bytes, of which there is but one way that takes the fewest bits.
func TestP901ByHand(t *testing.T) {
	for _, x := range []struct {
		b      string
		effort int
		want   []byte
	}{
		{"", 0, []byte{3, 0}},
		{"", 1, []byte{3, 0}},
		{"a", 0, []byte{0x4B, 4, 0}},
		{"\xFF", 1, []byte{0xFB, 0x0F, 0}},
		{"abc", 9, []byte{0x4B, 0x4C, 0x4A, 6, 0}},
		{"hello", 0, []byte{0xCB, 0x48, 0xCD, 0xC9, 0xC9, 7, 0}},
		{"aaaaaaaaaa", 1, []byte{0x4B, 0x84, 3, 0}},
		{strings.Repeat("a", 259), 1, []byte{0x4B, 0x1C, 5, 0}}, // the greatest length has a symbol without more bits
	} {
		if z := checkDeflate(t, []byte(x.b), x.effort); !bytes.Equal(z, x.want) {
			t.Errorf("%q, %d: %x, not %x", x.b, x.effort, z, x.want)
		}
	}
}

// TestP901EachLength: all short lengths, with all efforts.
func TestP901EachLength(t *testing.T) {
	random := rand.New(rand.NewSource(901))
	for n := range 300 {
		for _, b := range [][]byte{drawn(random, n, 1), drawn(random, n, 2), drawn(random, n, 20), drawn(random, n, 256), skewed(random, n, 3)} {
			for _, effort := range efforts() {
				checkDeflate(t, b, effort)
			}
		}
	}
}

// TestP901Small: all bytes of at most seven of two letters.
func TestP901Small(t *testing.T) {
	for n := range 8 {
		for v := range 1 << n {
			b := make([]byte, n)
			for k := range b {
				b[k] = "a\xFE"[v>>k&1]
			}
			checkDeflate(t, b, v%3)
		}
	}
}

// TestP901Long: around the edges of stored blocks, and as long as a file may be.
func TestP901Long(t *testing.T) {
	random := rand.New(rand.NewSource(902))
	for _, n := range []int{16383, 16384, 16385, 32768, 32769, 65534, 65535, 65536, 65537, 131069, 131070, 131071, api.MaxFile - 1, api.MaxFile} {
		for _, b := range [][]byte{drawn(random, n, 1), drawn(random, n, 256), drawn(random, n, 250), skewed(random, n, 9), mixed(random, n)} {
			for _, effort := range []int{0, 1, 9} {
				checkDeflate(t, b, effort)
			}
		}
	}
}

func TestP901Mixed(t *testing.T) {
	random := rand.New(rand.NewSource(903))
	for range 300 {
		b := mixed(random, random.Intn(1<<random.Intn(18)))
		checkDeflate(t, b, random.Intn(1<<random.Intn(9))-1)
	}
}

// TestP901TooLong: nil of more than a file has, from Deflate and from Pack; Stored has no such bound.
func TestP901TooLong(t *testing.T) {
	for _, n := range []int{api.MaxFile + 1, api.MaxFile + 2, 2 * api.MaxFile} {
		b := make([]byte, n)
		for _, effort := range efforts() {
			if z := zlib.Deflate(b, effort); len(z) != 0 {
				t.Errorf("%d, %d: %d bytes", n, effort, len(z))
			}
			if z := zlib.Pack(b, effort); len(z) != 0 {
				t.Errorf("P902: %d, %d: %d bytes", n, effort, len(z))
			}
		}
		checkStored(t, b)
	}
}

// TestP901Incompressible: what no code makes shorter has at most its stored size, though blocks are cut.
func TestP901Incompressible(t *testing.T) {
	random := rand.New(rand.NewSource(904))
	for _, n := range []int{1000, 16384, 16385, 65535, 65536, 131070, 131071, 196605, 196606, api.MaxFile} {
		b := drawn(random, n, 256)
		for _, effort := range []int{-1, 0, 1, 200} {
			if z := checkDeflate(t, b, effort); len(z) < n {
				t.Errorf("%d, %d: %d bytes", n, effort, len(z))
			}
		}
	}
}

// TestP901OneByte: one byte again and again takes at most a tenth.
func TestP901OneByte(t *testing.T) {
	for v := range 256 {
		for _, n := range []int{1000, 1001, 1009} {
			b := bytes.Repeat([]byte{byte(v)}, n)
			if z := checkDeflate(t, b, 1); 10*len(z) > n {
				t.Errorf("%d of %d: %d bytes", n, v, len(z))
			}
		}
	}
	for _, n := range []int{1000, 1023, 1290, 4129, 32768, 65535, 65536, 100000, api.MaxFile} {
		for _, effort := range efforts() {
			z := checkDeflate(t, make([]byte, n), effort)
			if effort >= 1 && 10*len(z) > n {
				t.Errorf("%d, %d: %d bytes", n, effort, len(z))
			}
			if effort <= 0 && n >= 1000 && len(z) < n/8 { // literals have a bit each at least
				t.Errorf("%d, %d: %d bytes are too few", n, effort, len(z))
			}
		}
	}
}

// TestP901KindByCost: one block is as long as the kind is that costs the least.
func TestP901KindByCost(t *testing.T) {
	random := rand.New(rand.NewSource(905))
	seen := map[int]int{}
	for k := range 3000 {
		n := random.Intn(1 << random.Intn(13))
		b := skewed(random, n, 100*random.Float64())
		switch k % 4 {
		case 0:
			b = drawn(random, n, 200+random.Intn(57))
		case 1:
			b = mixed(random, n)
		}
		effort := random.Intn(4)
		z := checkDeflate(t, b, effort)
		fixed, told := costs(b, effort)
		if least := min(storedSize(n), (fixed+7)/8, (told+7)/8); len(z) != least {
			t.Fatalf("%d bytes, %d: %d, not %d", n, effort, len(z), least)
		}
		l := places(t, z)
		if len(l) != 1 {
			t.Fatalf("%d blocks", len(l))
		}
		seen[l[0].kind]++
	}
	for kind := range 3 {
		if seen[kind] < 50 {
			t.Errorf("kind %d: %d times", kind, seen[kind])
		}
	}
}

// TestP901EachBlockByItself: pieces that are best stored stand between pieces that are not, from each bit of a byte on.
func TestP901EachBlockByItself(t *testing.T) {
	random := rand.New(rand.NewSource(906))
	seen := map[place]int{}
	for k := range 60 {
		const piece = 1 << 14
		b := slices.Concat(skewed(random, piece, 3), drawn(random, piece, 256), skewed(random, 2*piece, 5), drawn(random, 2*piece, 256-k%20), skewed(random, 100, 9))
		z := checkDeflate(t, b, 0)
		if len(z) > len(b)*4/5 {
			t.Errorf("%d bytes of %d", len(z), len(b))
		}
		for _, p := range places(t, z) {
			seen[p]++
		}
	}
	for k := range 20 {
		places(t, checkDeflate(t, slices.Concat(make([]byte, 1000), withCopies(random, 100000, 30+4*k), make([]byte, 1000)), 5))
	}
	for bit := range 8 {
		if seen[place{0, bit}] == 0 {
			t.Errorf("no stored block from bit %d on: %v", bit, seen)
		}
		if seen[place{2, bit}] == 0 {
			t.Errorf("no block of its own codes from bit %d on: %v", bit, seen)
		}
	}
}

// withCopies: bytes that do not come again, but for three of them, from far behind, behind each run of so many.
func withCopies(random *rand.Rand, n, run int) []byte {
	b := drawn(random, 32000, 256)
	for len(b) < n {
		from := len(b) - 25000 - random.Intn(7000)
		b = append(b, b[from:from+3]...)
		b = append(b, drawn(random, run, 256)...)
	}
	return b[:n]
}

// TestP901LiteralsLikeTheLibrary: without effort Huffman codes alone: near what the library makes of them.
func TestP901LiteralsLikeTheLibrary(t *testing.T) {
	random := rand.New(rand.NewSource(907))
	for range 100 {
		b := skewed(random, random.Intn(16000), 50*random.Float64())
		var out bytes.Buffer
		w, _ := flate.NewWriter(&out, flate.HuffmanOnly)
		w.Write(b)
		w.Close()
		if z := checkDeflate(t, b, 0); len(z) > out.Len()+out.Len()/50+20 {
			t.Errorf("%d bytes: %d; the library: %d", len(b), len(z), out.Len())
		}
	}
}

// TestP901Copies: each length, and each symbol's nearest and farthest distance.
func TestP901Copies(t *testing.T) {
	random := rand.New(rand.NewSource(908))
	ahead := drawn(random, 32768, 144) // literals that have eight bits at most
	for n := 3; n <= 258; n++ {
		piece := ahead[:300]
		b := slices.Concat(piece, []byte{piece[n] ^ 1}, piece[:n], []byte{piece[n] ^ 2})
		if z := checkDeflate(t, b, 9); n > 9 && len(z) > 300+12 {
			t.Errorf("length %d: %d bytes of %d", n, len(z), len(b))
		}
	}
	for sym := range 30 {
		base, extra, _ := inflate.Distance(sym)
		for _, dist := range []int{base, base + 1<<extra - 1} {
			piece := ahead[len(ahead)-dist:]
			b := bytes.Repeat(piece, 200/dist+2)[:dist+200]
			if z := checkDeflate(t, b, 9); len(z) > dist+60 {
				t.Errorf("distance %d: %d bytes of %d", dist, len(z), len(b))
			}
		}
	}
}

// TestP901ManyLengthsAndDistances: blocks of their own codes that have all symbols of lengths and of distances.
func TestP901ManyLengthsAndDistances(t *testing.T) {
	random := rand.New(rand.NewSource(909))
	for range 10 {
		b := drawn(random, 2000, 256)
		for len(b) < 200000 {
			from := max(0, len(b)-1-random.Intn(min(len(b), 1<<random.Intn(16))))
			for range 3 + random.Intn(256) {
				b = append(b, b[from])
				from++
			}
			b = append(b, byte(random.Intn(256)))
		}
		z := checkDeflate(t, b, 30)
		if l := places(t, z); len(z) > len(b)/8 || l[0].kind != 2 {
			t.Errorf("%d bytes of %d, %v", len(z), len(b), l[0])
		}
	}
}

// TestP901DeepCodes: counts of which the best codes would have more than 15 bits, and lengths whose own code would have more than seven.
func TestP901DeepCodes(t *testing.T) {
	random := rand.New(rand.NewSource(910))
	for last := 2; last <= 18; last++ { // behind the end, that comes once, each one comes as often as the two ahead of it: no code is deeper
		var b []byte
		for k, v := 0, [2]int{1, 2}; k < last; k++ {
			b = append(b, bytes.Repeat([]byte{byte(37 * k)}, v[0])...)
			v = [2]int{v[1], v[0] + v[1]}
		}
		for range 3 {
			checkDeflate(t, b, 0)
			checkDeflate(t, b, 1)
			random.Shuffle(len(b), func(i, j int) { b[i], b[j] = b[j], b[i] })
		}
	}
	for range 300 {
		checkDeflate(t, stairs(random), 0)
	}
}

// stairs: bytes of which many come about as seldom, fewer twice as often, and so on, in any order.
func stairs(random *rand.Rand) []byte {
	symbols := random.Perm(256)
	var b []byte
	size := 1 + random.Intn(150)
	times := 1
	for len(symbols) > 0 && len(b) < 10000 {
		n := min(size, len(symbols))
		for _, sym := range symbols[:n] {
			b = append(b, bytes.Repeat([]byte{byte(sym)}, times)...)
		}
		symbols = symbols[n:]
		size = max(1, size*(30+random.Intn(40))/100)
		times *= 2
	}
	random.Shuffle(len(b), func(i, j int) { b[i], b[j] = b[j], b[i] })
	return b
}

// TestP901EffortPays: more effort takes fewer bytes of what comes again in several places.
func TestP901EffortPays(t *testing.T) {
	random := rand.New(rand.NewSource(911))
	piece := drawn(random, 500, 256)
	b := bytes.Repeat(piece, 20)
	none, some := len(checkDeflate(t, b, 0)), len(checkDeflate(t, b, 1))
	if none < 9000 || some > 800 {
		t.Errorf("%d, %d bytes", none, some)
	}
	text := []byte(strings.Repeat("the quick brown fox jumps over the lazy dog; ", 40))
	if z := checkDeflate(t, text, 9); len(z) > 100 {
		t.Errorf("%d bytes of %d", len(z), len(text))
	}
}

// checkStored reads stored blocks byte by byte.
func checkStored(t *testing.T, b []byte) {
	t.Helper()
	z := zlib.Stored(b)
	if len(z) != storedSize(len(b)) {
		t.Fatalf("%d bytes: %d, not %d", len(b), len(z), storedSize(len(b)))
	}
	left := b
	for {
		n := min(len(left), 65535)
		last := byte(0)
		if n == len(left) {
			last = 1
		}
		head := []byte{last, byte(n), byte(n >> 8), ^byte(n), ^byte(n >> 8)}
		if !bytes.Equal(z[:5], head) || !bytes.Equal(z[5:5+n], left[:n]) {
			t.Fatalf("%d bytes, %d left: %x, not %x", len(b), len(left), z[:5], head)
		}
		z, left = z[5+n:], left[n:]
		if last == 1 {
			break
		}
	}
	if len(z) != 0 {
		t.Fatalf("%d bytes: %d behind the last block", len(b), len(z))
	}
}

func TestP901Stored(t *testing.T) {
	if z := zlib.Stored(nil); !bytes.Equal(z, []byte{1, 0, 0, 0xFF, 0xFF}) {
		t.Errorf("none: %x", z)
	}
	if z := zlib.Stored([]byte("ab")); !bytes.Equal(z, []byte{1, 2, 0, 0xFD, 0xFF, 'a', 'b'}) {
		t.Errorf("ab: %x", z)
	}
	random := rand.New(rand.NewSource(912))
	for _, n := range []int{0, 1, 2, 255, 256, 257, 1000, 65534, 65535, 65536, 65537, 131069, 131070, 131071, 196605, 196606, api.MaxFile - 1, api.MaxFile} {
		b := drawn(random, n, 256)
		checkStored(t, b)
		tells(t, zlib.Stored(b), b)
		checkStored(t, make([]byte, n))
	}
	for n := range 600 {
		checkStored(t, drawn(random, n, 256))
	}
}

func TestP901Bound(t *testing.T) {
	for _, x := range []struct{ n, want int }{
		{0, 11}, {1, 12}, {2, 13}, {65534, 65545}, {65535, 65546}, {65536, 65552}, {65537, 65553},
		{131069, 131085}, {131070, 131086}, {131071, 131092}, {196605, 196626}, {196606, 196632}, {api.MaxFile, api.MaxFile + 31}, {1<<31 - 1, 1<<31 - 1 + 5*32769 + 6},
	} {
		if n := zlib.Bound(x.n); n != x.want {
			t.Errorf("%d: %d, not %d", x.n, n, x.want)
		}
	}
	for n := range 300000 {
		if got := zlib.Bound(n); got != storedSize(n)+6 {
			t.Fatalf("%d: %d", n, got)
		}
	}
	for _, n := range []int{-1, -2, -65535, -65536, math.MinInt, math.MaxInt, math.MaxInt - 1} { // only that it ends
		zlib.Bound(n)
	}
}

// TestP902Pack: the frame, read by this program and by the library.
func TestP902Pack(t *testing.T) {
	random := rand.New(rand.NewSource(913))
	for k := range 400 {
		b := mixed(random, k*k%4000)
		if k%50 == 0 {
			b = mixed(random, 100000)
		}
		p := checkPack(t, b, efforts()[k%len(efforts())])
		r, err := library.NewReader(bytes.NewReader(p))
		if err != nil {
			t.Fatal(err)
		}
		if out, err := io.ReadAll(r); err != nil || !bytes.Equal(out, b) {
			t.Fatalf("%d bytes: %d, %v", len(b), len(out), err)
		}
		for _, most := range []int{len(b), len(b) + 1, api.MaxFile} {
			out, used, err := checkUnpack(t, append(slices.Clone(p), 1, 2, 3), most)
			if err != api.OK || used != len(p) || !bytes.Equal(out, b) {
				t.Fatalf("%d bytes, %d: %d, %d, %v", len(b), most, len(out), used, err)
			}
		}
	}
}

func TestP902PackLong(t *testing.T) {
	random := rand.New(rand.NewSource(914))
	for _, b := range [][]byte{make([]byte, api.MaxFile), drawn(random, api.MaxFile, 256), bytes.Repeat([]byte{255}, api.MaxFile)} {
		p := checkPack(t, b, 1)
		if out, used, err := zlib.Unpack(p, api.MaxFile); err != api.OK || used != len(p) || !bytes.Equal(out, b) {
			t.Errorf("%d, %d, %v", len(out), used, err)
		}
		if out, used, err := zlib.Unpack(p, api.MaxFile-1); err != api.ErrLong || used != 0 || len(out) != 0 {
			t.Errorf("%d, %d, %v", len(out), used, err)
		}
	}
}

// TestP902Library: what the library packs, at each of its levels, is told.
func TestP902Library(t *testing.T) {
	random := rand.New(rand.NewSource(915))
	for level := -2; level <= 9; level++ {
		for k := range 20 {
			b := mixed(random, 1<<(k%13))
			var out bytes.Buffer
			w, _ := library.NewWriterLevel(&out, level)
			w.Write(b)
			w.Close()
			if got, used, err := checkUnpack(t, append(out.Bytes(), 9), len(b)); err != api.OK || used != out.Len() || !bytes.Equal(got, b) {
				t.Errorf("level %d, %d bytes: %d, %d, %v", level, len(b), len(got), used, err)
			}
		}
	}
	var out bytes.Buffer
	w, _ := library.NewWriterLevelDict(&out, 9, []byte("abcabc"))
	w.Write([]byte("abcabcabc"))
	w.Close()
	if got, used, err := checkUnpack(t, out.Bytes(), 100); err != api.ErrForm || used != 0 || len(got) != 0 {
		t.Errorf("a dictionary: %q, %d, %v", got, used, err)
	}
}

// TestP902EachHead: all that two bytes may be, ahead of the same.
func TestP902EachHead(t *testing.T) {
	p := zlib.Pack([]byte("abcd"), 1)
	right := 0
	for v := range 1 << 16 {
		p[0], p[1] = byte(v>>8), byte(v)
		b, used, err := checkUnpack(t, p, 4)
		if err == api.OK && (string(b) != "abcd" || used != len(p)) || err != api.OK && err != api.ErrForm {
			t.Fatalf("%x: %q, %d, %v", v, b, used, err)
		}
		if err == api.OK {
			right++
		}
		if _, _, err := zlib.Unpack(p[:2], 4); err == api.OK || err == api.ErrShort && p[0]&15 != 8 {
			t.Fatalf("%x alone: %v", v, err)
		}
	}
	if right != 32 { // eight windows, four levels
		t.Errorf("%d heads are right", right)
	}
	for _, x := range []struct {
		first, second byte
		want          api.Errno
	}{
		{0x78, 0x01, api.OK}, {0x78, 0x5E, api.OK}, {0x78, 0x9C, api.OK}, {0x78, 0xDA, api.OK}, {0x08, 0x1D, api.OK}, {0x18, 0x19, api.OK},
		{0x88, 0x1C, api.ErrForm}, {0xF8, 0x00, api.ErrForm}, {0x77, 0x00, api.ErrForm}, {0x79, 0x00, api.ErrForm}, {0x70, 0x00, api.ErrForm},
		{0x78, 0x9D, api.ErrForm}, {0x78, 0x9B, api.ErrForm}, {0x78, 0x00, api.ErrForm}, {0x78, 0x20, api.ErrForm}, {0x78, 0x7D, api.ErrForm}, {0x78, 0xBB, api.ErrForm}, {0x78, 0xF9, api.ErrForm},
	} {
		p[0], p[1] = x.first, x.second
		if _, _, err := zlib.Unpack(p, 4); err != x.want {
			t.Errorf("%x %x: %v, not %v", x.first, x.second, err, x.want)
		}
	}
}

// TestP902Short: wherever a frame ends too early.
func TestP902Short(t *testing.T) {
	random := rand.New(rand.NewSource(916))
	for _, b := range [][]byte{nil, []byte("abcd"), make([]byte, 3000), mixed(random, 2000), drawn(random, 300, 256)} {
		for _, effort := range []int{0, 1} {
			p := zlib.Pack(b, effort)
			for n := range p {
				if out, used, err := checkUnpack(t, p[:n:n], len(b)); err != api.ErrShort || used != 0 || len(out) != 0 {
					t.Errorf("%d of %d: %d, %d, %v", n, len(p), len(out), used, err)
				}
			}
		}
	}
}

// TestP902Sum: each bit of the sum counts.
func TestP902Sum(t *testing.T) {
	for _, b := range []string{"", "a", "abcd", strings.Repeat("\xFF", 6000)} {
		p := zlib.Pack([]byte(b), 1)
		for k := range 32 {
			z := slices.Clone(p)
			z[len(z)-4+k/8] ^= 1 << (k % 8)
			for _, behind := range []string{"", "\x00", "abcdef"} {
				if out, used, err := checkUnpack(t, append(slices.Clone(z), behind...), len(b)); err != api.ErrSum || used != 0 || len(out) != 0 {
					t.Errorf("%q, bit %d: %q, %d, %v", b, k, out, used, err)
				}
			}
		}
		z := slices.Clone(p)
		slices.Reverse(z[len(z)-4:]) // the lowest byte first
		if _, _, err := zlib.Unpack(z, len(b)); err != api.ErrSum {
			t.Errorf("%q, turned round: %v", b, err)
		}
	}
}

// TestP902Order: of several errors the first one that the chapter names.
func TestP902Order(t *testing.T) {
	stored := func(head string, b, sum string) []byte {
		return slices.Concat([]byte(head), zlib.Stored([]byte(b)), []byte(sum))
	}
	wrong := "\x00\x00\x00\x02"
	for _, x := range []struct {
		name string
		z    []byte
		most int
		want api.Errno
	}{
		{"nothing, and no such most", nil, -1, api.ErrShort},
		{"one byte, and no such most", []byte{0x78}, -1, api.ErrShort},
		{"one byte that is none", []byte{0x79}, 9, api.ErrShort},
		{"a wrong head, and no such most", stored("\x79\x9C", "ab", wrong), -1, api.ErrForm},
		{"a wrong head alone", []byte{0x78, 0x9D}, 9, api.ErrForm},
		{"a dictionary, and nothing behind", []byte{0x78, 0xBB}, 9, api.ErrForm},
		{"no such most, and nothing behind", []byte{0x78, 0x9C}, -1, api.ErrArg},
		{"no such most, and a wrong block", []byte{0x78, 0x9C, 7}, api.MaxFile + 1, api.ErrArg},
		{"the greatest most", []byte{0x78, 0x9C, 7}, api.MaxFile, api.ErrForm},
		{"a block of kind 3, no sum", []byte{0x78, 0x9C, 7}, 0, api.ErrForm},
		{"too long, and no sum", stored("\x78\x9C", "abc", ""), 2, api.ErrLong},
		{"too long, and a wrong sum", stored("\x78\x9C", "abc", wrong), 2, api.ErrLong},
		{"no sum", stored("\x78\x9C", "abc", ""), 3, api.ErrShort},
		{"three bytes of a wrong sum", stored("\x78\x9C", "abc", wrong[:3]), 3, api.ErrShort},
		{"a wrong sum", stored("\x78\x9C", "abc", wrong), 3, api.ErrSum},
		{"the sum of none", stored("\x78\x9C", "", "\x00\x00\x00\x01"), 0, api.OK},
		{"the sum of abc", stored("\x78\x9C", "abc", "\x02\x4D\x01\x27"), 3, api.OK},
	} {
		if out, used, err := checkUnpack(t, x.z, x.most); err != x.want || err != api.OK && (used != 0 || len(out) != 0) {
			t.Errorf("%s: %q, %d, %v, not %v", x.name, out, used, err, x.want)
		}
	}
}

// TestP902Most: what may not be, and just enough.
func TestP902Most(t *testing.T) {
	p := zlib.Pack([]byte("abcd"), 1)
	for _, x := range []struct {
		most int
		want api.Errno
	}{
		{math.MinInt, api.ErrArg}, {-1, api.ErrArg}, {0, api.ErrLong}, {3, api.ErrLong}, {4, api.OK}, {5, api.OK},
		{api.MaxFile, api.OK}, {api.MaxFile + 1, api.ErrArg}, {math.MaxInt, api.ErrArg},
	} {
		if _, _, err := checkUnpack(t, p, x.most); err != x.want {
			t.Errorf("%d: %v, not %v", x.most, err, x.want)
		}
	}
	if out, used, err := checkUnpack(t, zlib.Pack(nil, 1), 0); err != api.OK || used != 8 || len(out) != 0 {
		t.Errorf("none: %q, %d, %v", out, used, err)
	}
}

// TestP902Spoilt: frames in which bytes were changed, put in, taken out.
func TestP902Spoilt(t *testing.T) {
	random := rand.New(rand.NewSource(917))
	for range 20000 {
		b := mixed(random, random.Intn(200))
		p := zlib.Pack(b, random.Intn(3))
		for range 1 + random.Intn(3) {
			at := random.Intn(len(p))
			switch random.Intn(3) {
			case 0:
				p[at] ^= 1 << random.Intn(8)
			case 1:
				p = slices.Insert(p, at, byte(random.Intn(256)))
			case 2:
				p = slices.Delete(p, at, at+min(1, len(p)-1))
			}
		}
		checkUnpack(t, p, random.Intn(300)-5)
	}
}

// TestP902SeveralInARow: used tells where the next one begins.
func TestP902SeveralInARow(t *testing.T) {
	random := rand.New(rand.NewSource(918))
	var all []byte
	var want [][]byte
	for k := range 50 {
		b := mixed(random, 10*k)
		want = append(want, b)
		all = append(all, zlib.Pack(b, k%4)...)
	}
	for k, b := range want {
		out, used, err := zlib.Unpack(all, api.MaxFile)
		if err != api.OK || !bytes.Equal(out, b) {
			t.Fatalf("%d: %d bytes, %v", k, len(out), err)
		}
		all = all[used:]
	}
	if len(all) != 0 {
		t.Errorf("%d left", len(all))
	}
}

// TestP2NothingChangedOrKept: neither what is handed in, nor its spare room; and an answer is nobody else's.
func TestP2NothingChangedOrKept(t *testing.T) {
	random := rand.New(rand.NewSource(919))
	for _, spare := range [][]byte{bytes.Repeat([]byte("abcabcx"), 50), drawn(random, 300, 256), skewed(random, 300, 4)} {
		was := slices.Clone(spare)
		packed := append(zlib.Pack(spare[:200], 1), 1, 2, 3)
		wasPacked := slices.Clone(packed)
		calls := []func() []byte{
			func() []byte { return zlib.Deflate(spare[:200], 0) },
			func() []byte { return zlib.Deflate(spare[:200], 1) },
			func() []byte { return zlib.Stored(spare[:200]) },
			func() []byte { return zlib.Pack(spare[:200], 1) },
			func() []byte { b, _, _ := zlib.Unpack(packed[:len(packed)-3], 200); return b },
		}
		for k, call := range calls {
			out := call()
			want := slices.Clone(out)
			other := call()
			for i := range other[:cap(other)] {
				other[:cap(other)][i] ^= 0xFF
			}
			if !bytes.Equal(spare, was) || !bytes.Equal(packed, wasPacked) {
				t.Fatalf("%d: changed", k)
			}
			for i := range spare {
				spare[i] ^= 0xFF
			}
			for i := range packed {
				packed[i] ^= 0xFF
			}
			if !bytes.Equal(out, want) {
				t.Fatalf("%d: kept", k)
			}
			copy(spare, was)
			copy(packed, wasPacked)
			if !bytes.Equal(call(), want) {
				t.Fatalf("%d: not the same", k)
			}
		}
	}
}

func TestP3TheSameAgain(t *testing.T) {
	random := rand.New(rand.NewSource(920))
	for range 20 {
		b := mixed(random, 20000)
		for _, effort := range []int{0, 1, 200} {
			z := zlib.Pack(b, effort)
			zlib.Pack(mixed(random, 500), 7)
			if !bytes.Equal(zlib.Pack(append(make([]byte, 0, 1<<16), b...), effort), z) {
				t.Errorf("%d", effort)
			}
		}
	}
}

func FuzzP901Deflate(f *testing.F) {
	f.Add([]byte("abcabcabcabd"), 1)
	f.Add(bytes.Repeat([]byte("aab"), 99), 200)
	f.Add([]byte{}, -1)
	f.Fuzz(func(t *testing.T, b []byte, effort int) {
		if len(b) > api.MaxFile/4 {
			return
		}
		checkDeflate(t, b, effort)
		checkStored(t, b)
		p := checkPack(t, b, effort)
		if out, used, err := zlib.Unpack(p, len(b)); err != api.OK || used != len(p) || !bytes.Equal(out, b) {
			t.Fatalf("%d bytes: %d, %d, %v", len(b), len(out), used, err)
		}
	})
}

func FuzzP902Unpack(f *testing.F) {
	f.Add(zlib.Pack([]byte("abcd"), 1), 4)
	f.Add(zlib.Pack(bytes.Repeat([]byte("aab"), 99), 0), 297)
	f.Add([]byte{0x78, 0xBB}, -1)
	f.Fuzz(func(t *testing.T, z []byte, most int) {
		checkUnpack(t, z, most)
	})
}
