package delta_test

import (
	"bytes"
	"math"
	"math/rand"
	"runtime"
	"slices"
	"strconv"
	"testing"

	"trove/api"
	"trove/delta"
)

// The greatest size, and one of more bytes than a size may have.
var (
	nine   = []byte{0xFF, 0xFF, 0xFF, 0xFF, 0xFF, 0xFF, 0xFF, 0xFF, 0x7F}
	noSize = []byte{0x80, 0x80, 0x80, 0x80, 0x80, 0x80, 0x80, 0x80, 0x80, 0}
)

func TestP1301Sizes(t *testing.T) {
	for _, x := range []struct {
		d         []byte
		base, out int
		err       api.Errno
	}{
		{[]byte{0, 0}, 0, 0, api.OK},
		{[]byte{1, 2}, 1, 2, api.OK},
		{[]byte{0x80, 1, 7}, 128, 7, api.OK},
		{[]byte{127, 0xAC, 2}, 127, 300, api.OK},
		{[]byte{5, 6, 0}, 5, 6, api.OK}, // no step is read
		{[]byte{5, 6, 0xFF}, 5, 6, api.OK},
		{[]byte{0x80, 0x80, 0, 0x80, 0}, 0, 0, api.OK},
		{slices.Concat(nine, nine), math.MaxInt, math.MaxInt, api.OK},
		{nil, 0, 0, api.ErrShort},
		{[]byte{1}, 0, 0, api.ErrShort},
		{[]byte{0x80}, 0, 0, api.ErrShort},
		{[]byte{0x80, 1}, 0, 0, api.ErrShort},
		{[]byte{1, 0x80}, 0, 0, api.ErrShort},
		{noSize[:8], 0, 0, api.ErrShort},
		{noSize[:9], 0, 0, api.ErrLong},
		{noSize, 0, 0, api.ErrLong},
		{slices.Concat([]byte{1}, noSize[:8]), 0, 0, api.ErrShort},
		{slices.Concat([]byte{1}, noSize[:9]), 0, 0, api.ErrLong},
		{slices.Concat([]byte{1}, noSize), 0, 0, api.ErrLong},
		{slices.Concat(noSize, []byte{0x80}), 0, 0, api.ErrLong}, // the base's comes first
	} {
		if base, out, err := delta.Sizes(x.d); base != x.base || out != x.out || err != x.err {
			t.Errorf("Sizes(%x): %d, %d, %v", x.d, base, out, err)
		}
		if base, out, l, err := delta.Parse(x.d); x.err != api.OK && (base != 0 || out != 0 || len(l) != 0 || err != x.err) {
			t.Errorf("Parse(%x): %d, %d, %v, %v", x.d, base, out, l, err)
		}
		if b, err := delta.Apply(nil, x.d, -1); x.err != api.OK && (len(b) != 0 || err != x.err) {
			t.Errorf("Apply(%x): %x, %v", x.d, b, err)
		}
	}
}

func TestP1301ParseByHand(t *testing.T) {
	for _, x := range []struct {
		steps []byte
		want  []delta.Op
		err   api.Errno
	}{
		{nil, nil, api.OK},
		{[]byte{0x80}, []delta.Op{cut(0, 65536)}, api.OK},
		{[]byte{0x90, 0}, []delta.Op{cut(0, 65536)}, api.OK},
		{[]byte{0xF0, 0, 0, 0}, []delta.Op{cut(0, 65536)}, api.OK},
		{[]byte{0xC0, 1}, []delta.Op{cut(0, 65536)}, api.OK},
		{[]byte{0xD0, 1, 1}, []delta.Op{cut(0, 65537)}, api.OK},
		{[]byte{0xFF, 1, 2, 3, 4, 5, 6, 7}, []delta.Op{cut(0x04030201, 0x070605)}, api.OK},
		{[]byte{0xFF, 255, 255, 255, 255, 255, 255, 255}, []delta.Op{cut(1<<32-1, 1<<24-1)}, api.OK},
		{[]byte{0x88, 9, 0xA0, 1}, []delta.Op{cut(9<<24, 65536), cut(0, 256)}, api.OK},
		{[]byte{1, 0}, []delta.Op{data("\x00")}, api.OK},
		{[]byte{2, 'a', 'b', 0x91, 7, 3, 1, 'c'}, []delta.Op{data("ab"), cut(7, 3), data("c")}, api.OK},
		{[]byte{0}, nil, api.ErrForm},
		{[]byte{0, 0xFF}, nil, api.ErrForm},
		{[]byte{1, 'a', 0}, nil, api.ErrForm},
		{[]byte{1, 'a', 0, 3, 'b'}, nil, api.ErrForm}, // the first step that has an error
		{[]byte{3, 'a', 0}, nil, api.ErrShort},
		{[]byte{0x83, 0}, nil, api.ErrShort},
		{[]byte{1}, nil, api.ErrShort},
		{[]byte{0xFF}, nil, api.ErrShort},
	} {
		d := slices.Concat([]byte{5, 0xAC, 2}, x.steps)
		base, out, l, err := delta.Parse(d)
		if err != x.err || !sameOps(l, x.want) {
			t.Errorf("Parse(%x): %v, %v, not %v, %v", d, l, err, x.want, x.err)
		}
		if x.err == api.OK && (base != 5 || out != 300) || x.err != api.OK && (base != 0 || out != 0) {
			t.Errorf("Parse(%x): %d, %d", d, base, out)
		}
		if b, err := delta.Apply([]byte("01234"), d, 999); x.err != api.OK && (len(b) != 0 || err != x.err) {
			t.Errorf("Apply(%x): %x, %v", d, b, err)
		}
	}
}

// TestP1301EveryHead: each byte that a step may begin with, with all that follows, and with less.
func TestP1301EveryHead(t *testing.T) {
	bytesOf := []byte{0x81, 0x42, 0x23, 0x14, 0x95, 0x56, 0x37}
	for head := 1; head < 256; head++ {
		step := []byte{byte(head)}
		want := delta.Op{}
		if head < 128 {
			want.Data = bytes.Repeat([]byte{byte(head), 0}, head)[:head]
			step = append(step, want.Data...)
		} else {
			want = cut(0, 0)
			for k, c := range bytesOf {
				if head>>k%2 == 0 {
					continue
				}
				step = append(step, c)
				if k < 4 {
					want.From += int(c) << (8 * k)
				} else {
					want.N += int(c) << (8 * (k - 4))
				}
			}
			if want.N == 0 {
				want.N = 65536
			}
		}
		d := append([]byte{1, 2}, step...)
		if _, _, l, err := delta.Parse(append(d, 1, '!')); err != api.OK || !sameOps(l, []delta.Op{want, data("!")}) {
			t.Errorf("%x: %v, %v, not %v", step, l, err, want)
		}
		for n := 3; n < len(d); n++ {
			if base, out, l, err := delta.Parse(d[:n]); base != 0 || out != 0 || len(l) != 0 || err != api.ErrShort {
				t.Errorf("%x: %d, %d, %v, %v", d[:n], base, out, l, err)
			}
		}
	}
}

func TestP1301ApplyByHand(t *testing.T) {
	base := []byte("0123456789")
	for _, x := range []struct {
		d    []byte
		most int
		want string
		err  api.Errno
	}{
		{[]byte{10, 0}, 0, "", api.OK},
		{[]byte{10, 5, 0x91, 7, 3, 2, 'a', 'b'}, 5, "789ab", api.OK},
		{[]byte{10, 5, 0x91, 7, 3, 2, 'a', 'b'}, math.MaxInt, "789ab", api.OK},
		{[]byte{10, 20, 0x90, 10, 0x90, 10}, 20, "01234567890123456789", api.OK},
		{[]byte{10, 3, 0x91, 9, 1, 0x91, 5, 1, 0x90, 1}, 3, "950", api.OK},
		{[]byte{10, 1, 0xFF, 9, 0, 0, 0, 1, 0, 0}, 3, "9", api.OK}, // bytes that are 0 may follow
		{[]byte{0x8A, 0, 0x81, 0, 1, 'x'}, 1, "x", api.OK},
		// Parse's error comes first.
		{[]byte{9, 9, 0}, 0, "", api.ErrForm},
		{[]byte{9, 9, 2, 'a'}, 0, "", api.ErrShort},
		{[]byte{9, 9, 0x91}, -1, "", api.ErrShort},
		// Then that of base's size.
		{[]byte{9, 1, 1, 'a'}, 1, "", api.ErrForm},
		{[]byte{11, 1, 1, 'a'}, 1, "", api.ErrForm},
		{[]byte{9, 1, 1, 'a'}, 0, "", api.ErrForm},
		{slices.Concat(nine, []byte{1, 1, 'a'}), 0, "", api.ErrForm},
		// Then that of the bound.
		{[]byte{10, 0}, -1, "", api.ErrLong},
		{[]byte{10, 0}, math.MinInt, "", api.ErrLong},
		{[]byte{10, 5, 0x91, 7, 3, 2, 'a', 'b'}, 4, "", api.ErrLong},
		{[]byte{10, 5, 0x91, 7, 4}, 4, "", api.ErrLong},
		{slices.Concat([]byte{10}, nine), math.MaxInt - 1, "", api.ErrLong},
		// Then those of the steps.
		{[]byte{10, 5, 0x91, 7, 4}, 5, "", api.ErrForm},
		{[]byte{10, 4, 0x91, 7, 4}, 9, "", api.ErrForm},
		{[]byte{10, 1, 0x91, 10, 1}, 9, "", api.ErrForm},
		{[]byte{10, 10, 0x80}, 99, "", api.ErrForm}, // 65536 bytes
		{[]byte{10, 1, 0x98, 255, 1}, 9, "", api.ErrForm},
		{[]byte{10, 1, 0x9F, 255, 255, 255, 255, 1}, 9, "", api.ErrForm},
		{[]byte{10, 1}, 9, "", api.ErrForm},
		{[]byte{10, 2, 1, 'a'}, 9, "", api.ErrForm},
		{[]byte{10, 1, 2, 'a', 'b'}, 9, "", api.ErrForm},
		{[]byte{10, 0, 1, 'a'}, 9, "", api.ErrForm},
		{[]byte{10, 2, 0x90, 3}, 9, "", api.ErrForm},
		{slices.Concat([]byte{10}, nine, []byte{1, 'a'}), math.MaxInt, "", api.ErrForm},
	} {
		if out, err := delta.Apply(base, x.d, x.most); string(out) != x.want || err != x.err {
			t.Errorf("Apply(%x, %d): %q, %v, not %q, %v", x.d, x.most, out, err, x.want, x.err)
		}
		checkDelta(t, base, x.d, x.most)
	}
}

func TestP1301ApplyWithoutBase(t *testing.T) {
	for _, x := range []struct {
		d    []byte
		want string
		err  api.Errno
	}{
		{[]byte{0, 0}, "", api.OK},
		{[]byte{0, 2, 2, 'h', 'i'}, "hi", api.OK},
		{[]byte{0, 1, 0x90, 1}, "", api.ErrForm},
		{[]byte{1, 1, 0x90, 1}, "", api.ErrForm},
	} {
		for _, base := range [][]byte{nil, {}} {
			if out, err := delta.Apply(base, x.d, 9); string(out) != x.want || err != x.err {
				t.Errorf("Apply(%x): %q, %v", x.d, out, err)
			}
		}
	}
}

// TestP1301LongCopies: such as no printed delta has, and those from the last bytes of a long base.
func TestP1301LongCopies(t *testing.T) {
	base := noise(rand.New(rand.NewSource(1301)), 1<<24+300, 256)
	sizes := func(out int) []byte { return slices.Concat(sizeOf(len(base)), sizeOf(out)) }
	for _, x := range []struct {
		step    []byte
		from, n int
	}{
		{[]byte{0x80}, 0, 65536},
		{[]byte{0xC0, 1}, 0, 65536},
		{[]byte{0xD0, 1, 1}, 0, 65537},
		{[]byte{0xF2, 1, 255, 255, 255}, 256, 1<<24 - 1},
		{[]byte{0xBB, 43, 1, 1, 1, 0}, 1<<24 + 299, 1}, // the last byte
		{[]byte{0x88, 0}, 0, 65536},
	} {
		out, err := delta.Apply(base, append(sizes(x.n), x.step...), x.n)
		if err != api.OK || !bytes.Equal(out, base[x.from:x.from+x.n]) {
			t.Errorf("%x: %d bytes, %v", x.step, len(out), err)
		}
	}
	for _, x := range []struct {
		step []byte
		n    int
	}{
		{[]byte{0xF3, 46, 1, 255, 255, 255}, 1<<24 - 1},
		{[]byte{0x9B, 44, 1, 1, 1}, 1},
		{[]byte{0x9B, 43, 1, 1, 2}, 2},
	} {
		if out, err := delta.Apply(base, append(sizes(x.n), x.step...), x.n); len(out) != 0 || err != api.ErrForm {
			t.Errorf("%x, a byte beyond the end: %v", x.step, err)
		}
	}
}

// allocated: how many bytes of memory a call takes.
func allocated(call func()) uint64 {
	var ahead, behind runtime.MemStats
	runtime.ReadMemStats(&ahead)
	call()
	runtime.ReadMemStats(&behind)
	return behind.TotalAlloc - ahead.TotalAlloc
}

// TestP1301NothingIsMade: of a few steps that would make much.
func TestP1301NothingIsMade(t *testing.T) {
	base := make([]byte, 1<<20)
	steps := bytes.Repeat([]byte{0xC0, 0x10}, 64)
	whole := 64 * len(base)
	for _, x := range []struct {
		out, most int
		err       api.Errno
	}{
		{whole, 1000, api.ErrLong},
		{whole, whole - 1, api.ErrLong},
		{1000, 999, api.ErrLong},
		{math.MaxInt, whole, api.ErrLong},
		{1000, 1000, api.ErrForm},
		{whole - 1, whole, api.ErrForm},
		{whole + 1, math.MaxInt, api.ErrForm},
		{math.MaxInt, math.MaxInt, api.ErrForm},
	} {
		d := slices.Concat(sizeOf(len(base)), sizeOf(x.out), steps)
		var out []byte
		var err api.Errno
		taken := allocated(func() { out, err = delta.Apply(base, d, x.most) })
		if len(out) != 0 || err != x.err || taken > 1<<20 {
			t.Errorf("%d, %d: %d bytes, %v, by %d bytes of memory", x.out, x.most, len(out), err, taken)
		}
	}
	d := slices.Concat(sizeOf(len(base)), sizeOf(whole), steps)
	if out, err := delta.Apply(base, d, whole); !bytes.Equal(out, make([]byte, whole)) || err != api.OK {
		t.Errorf("within the bound: %d bytes, %v", len(out), err)
	}
}

// TestP1301KnownDelta: one that git made, of lines of which one was changed, one taken out, one put behind.
func TestP1301KnownDelta(t *testing.T) {
	line := func(word string) string { return "line " + word + " of the base, as it was\n" }
	base, target := "", ""
	for k := range 40 {
		word := strconv.Itoa(k)
		base += line(word)
		switch k {
		case 7:
			target += line("seven")
		case 30:
		default:
			target += line(word)
		}
	}
	target += "and an end\n"
	d := []byte("\xce\x09\xbe\x09\x90\xd7\x05seven\x93\x71\x01\x1d\xb1\xf5\xa9\x02\xb3\xbd\x03\x11\x01\x0band an end\n")
	if out, err := delta.Apply([]byte(base), d, len(target)); string(out) != target || err != api.OK {
		t.Errorf("%q, %v", out, err)
	}
	l := []delta.Op{cut(0, 215), data("seven"), cut(369, 29), cut(245, 681), cut(957, 273), data("and an end\n")}
	if base, out, m, err := delta.Parse(d); base != 1230 || out != 1214 || !sameOps(m, l) || err != api.OK {
		t.Errorf("%d, %d, %v, %v", base, out, m, err)
	}
	if b, err := delta.Print(1230, 1214, l); !bytes.Equal(b, d) || err != api.OK {
		t.Errorf("%x, %v", b, err)
	}
}

// TestP1301EverySmall: all deltas of a few bytes that matter.
func TestP1301EverySmall(t *testing.T) {
	letters := []byte{0, 1, 2, 3, 0x80, 0x90, 0x91, 0xA1}
	base := []byte{7, 8}
	for n := range 7 {
		d := make([]byte, n)
		for k := range 1 << (3 * n) {
			for at := range d {
				d[at] = letters[k>>(3*at)&7]
			}
			checkDelta(t, base, d, 1, 3)
		}
	}
}

// anyDelta: most of its steps are right.
func anyDelta(random *rand.Rand, base int) []byte {
	var steps []byte
	out := 0
	for range random.Intn(8) {
		if random.Intn(2) == 0 {
			n := 1 + random.Intn(127)
			steps = append(append(steps, byte(n)), noise(random, n, 256)...)
			out += n
			continue
		}
		from := random.Intn(base)
		n := 1 + random.Intn(min(255, base-from))
		steps = append(steps, 0x93, byte(from), byte(from>>8), byte(n))
		out += n
	}
	d := slices.Concat(sizeOf(base), sizeOf(out), steps)
	switch random.Intn(6) {
	case 0:
		d[random.Intn(len(d))] ^= byte(1 << random.Intn(8))
	case 1:
		d = d[:random.Intn(len(d))]
	}
	return d
}

func TestP1301Random(t *testing.T) {
	random := rand.New(rand.NewSource(1302))
	for range 20000 {
		base := noise(random, 1+random.Intn(400), 256)
		d := anyDelta(random, len(base))
		_, out, _ := delta.Sizes(d)
		checkDelta(t, base, d, out-1, out, out+1, random.Intn(1000))
	}
}

func FuzzP1301(f *testing.F) {
	f.Add([]byte("0123456789"), []byte{10, 5, 0x91, 7, 3, 2, 'a', 'b'}, 9)
	f.Add([]byte{}, []byte{0, 0}, 0)
	f.Add([]byte("x"), []byte{1, 1, 0xFF, 0, 0, 0, 0, 1, 0, 0}, 1)
	f.Fuzz(func(t *testing.T, base, d []byte, most int) {
		if len(base) > 1000 || len(d) > 1000 {
			return
		}
		checkDelta(t, base, d, most, 1000)
	})
}

func TestP1302PrintByHand(t *testing.T) {
	for _, x := range []struct {
		base, out int
		l         []delta.Op
		want      []byte
	}{
		{0, 0, nil, []byte{0, 0}},
		{0, 0, []delta.Op{}, []byte{0, 0}},
		{128, 300, nil, []byte{0x80, 1, 0xAC, 2}},
		{math.MaxInt, math.MaxInt, nil, slices.Concat(nine, nine)},
		{5, 300, []delta.Op{cut(0x1000002, 0x10000), data("hey"), cut(0, 0x100)}, []byte{5, 0xAC, 2, 0x89, 2, 1, 3, 'h', 'e', 'y', 0xA0, 1}},
		{1, 1, []delta.Op{cut(0, 1)}, []byte{1, 1, 0x90, 1}},
		{1, 1, []delta.Op{cut(0, 65536)}, []byte{1, 1, 0x80}},
		{1, 1, []delta.Op{cut(0, 65535)}, []byte{1, 1, 0xB0, 255, 255}},
		{1, 1, []delta.Op{cut(1<<32-1, 1)}, []byte{1, 1, 0x9F, 255, 255, 255, 255, 1}},
		{1, 1, []delta.Op{cut(0x00FF00, 0x100)}, []byte{1, 1, 0xA2, 255, 1}},
		{1, 1, []delta.Op{cut(0x01000000, 65536)}, []byte{1, 1, 0x88, 1}},
		{1, 1, []delta.Op{{Copy: true, N: 1, Data: []byte{}}}, []byte{1, 1, 0x90, 1}},
		{1, 1, []delta.Op{data("a"), data("b"), cut(0, 1), cut(1, 1)}, []byte{1, 1, 1, 'a', 1, 'b', 0x90, 1, 0x91, 1, 1}}, // steps are not joined
	} {
		if d, err := delta.Print(x.base, x.out, x.l); !bytes.Equal(d, x.want) || err != api.OK {
			t.Errorf("Print(%d, %d, %v): %x, %v, not %x", x.base, x.out, x.l, d, err, x.want)
		}
		checkPrint(t, x.base, x.out, x.l)
	}
}

func TestP1302PrintEveryForm(t *testing.T) {
	some := []int{0, 1, 255}
	for _, a := range some {
		for _, b := range some {
			for _, c := range some {
				for _, d := range some {
					for _, n := range []int{1, 2, 127, 128, 255, 256, 257, 511, 512, 0x0F00, 0xFF00, 65534, 65535, 65536} {
						checkPrint(t, a, b, []delta.Op{cut(a+b<<8+c<<16+d<<24, n)})
					}
				}
			}
		}
	}
	for n := 1; n <= 127; n++ {
		checkPrint(t, n, 127-n, []delta.Op{{Data: bytes.Repeat([]byte{0, byte(n)}, n)[:n]}})
	}
	for k := range 63 {
		checkPrint(t, 1<<k, 1<<k-1, nil)
	}
}

func TestP1302PrintRandom(t *testing.T) {
	random := rand.New(rand.NewSource(1303))
	for range 3000 {
		var l []delta.Op
		for range random.Intn(6) {
			if random.Intn(2) == 0 {
				l = append(l, cut(random.Intn(1<<random.Intn(33)), 1+random.Intn(65536>>random.Intn(17))))
			} else {
				l = append(l, delta.Op{Data: noise(random, 1+random.Intn(127), 256)})
			}
		}
		checkPrint(t, random.Intn(1<<random.Intn(63)), random.Intn(1<<random.Intn(63)), l)
	}
}

func TestP1302PrintWrong(t *testing.T) {
	for _, o := range []delta.Op{
		{},
		{Data: []byte{}},
		{Data: make([]byte, 128)},
		{Data: make([]byte, 65536)},
		{Data: []byte{1}, N: 1},
		{Data: []byte{1}, N: -1},
		{Data: []byte{1}, From: 1},
		{Data: []byte{1}, From: -1},
		{From: 1, N: 1},
		{Copy: true},
		{Copy: true, From: 1},
		{Copy: true, N: -1},
		{Copy: true, N: 65537},
		{Copy: true, N: 1 << 24},
		{Copy: true, N: 1<<32 + 1},
		{Copy: true, N: math.MaxInt},
		{Copy: true, N: math.MinInt},
		{Copy: true, N: 1, From: -1},
		{Copy: true, N: 1, From: 1 << 32},
		{Copy: true, N: 1, From: math.MaxInt},
		{Copy: true, N: 1, From: math.MinInt},
		{Copy: true, N: 1, Data: []byte{1}},
		{Copy: true, Data: []byte{1}},
	} {
		for _, l := range [][]delta.Op{{o}, {cut(0, 1), o}, {o, data("a")}, {data("a"), o, cut(0, 1)}} {
			if d, err := delta.Print(1, 1, l); len(d) != 0 || err != api.ErrArg {
				t.Errorf("Print(%v): %x, %v", l, d, err)
			}
		}
	}
	for _, x := range [][2]int{{-1, 0}, {0, -1}, {-1, -1}, {math.MinInt, 5}, {5, math.MinInt}} {
		for _, l := range [][]delta.Op{nil, {cut(0, 1)}} {
			if d, err := delta.Print(x[0], x[1], l); len(d) != 0 || err != api.ErrArg {
				t.Errorf("Print(%v): %x, %v", x, d, err)
			}
		}
	}
}

// spoil writes over a list and its spare room.
func spoil(b []byte) {
	for k := range b[:cap(b)] {
		b[:cap(b)][k] = '#'
	}
}

// TestP2NothingChangedOrKept: neither what is handed in, nor its spare room; and an answer is nobody else's.
func TestP2NothingChangedOrKept(t *testing.T) {
	d := slices.Concat([]byte{10, 8, 2, 'a', 'b', 0x91, 1, 3, 3, 'c', 'd', 'e'}, []byte("spare"))
	base := []byte("0123456789spare")
	wasD, wasBase := bytes.Clone(d), bytes.Clone(base)
	short := d[:12]
	want := []delta.Op{data("ab"), cut(1, 3), data("cde")}
	out, _ := delta.Apply(base[:10], short, 8)
	other, _ := delta.Apply(base[:10], short, 8)
	_, _, l, _ := delta.Parse(short)
	_, _, m, _ := delta.Parse(short)
	delta.Sizes(short)
	made := delta.Make(base[:10], short, 1)
	if !bytes.Equal(d, wasD) || !bytes.Equal(base, wasBase) {
		t.Fatal("changed")
	}
	spoil(other)
	for k := range m {
		spoil(m[k].Data)
	}
	spoil(l[0].Data)
	if string(l[2].Data) != "cde" {
		t.Error("two lists of one answer share memory")
	}
	copy(l[0].Data, "ab")
	spoil(d)
	spoil(base)
	if string(out) != "ab123cde" || !sameOps(l, want) {
		t.Errorf("kept: %q, %v", out, l)
	}
	if again, err := delta.Apply(wasBase[:10], made, 12); !bytes.Equal(again, wasD[:12]) || err != api.OK {
		t.Errorf("kept: %x", made)
	}
}

func TestP2PrintAndMake(t *testing.T) {
	put := []byte("abcspare")
	l := []delta.Op{{Data: put[:3]}, cut(1, 3), {Data: put[2:3]}}
	d, _ := delta.Print(10, 7, l[:2])
	was := bytes.Clone(d)
	other, _ := delta.Print(10, 7, l[:2])
	spoil(other)
	if string(put) != "abcspare" || !sameOps(l, []delta.Op{data("abc"), cut(1, 3), data("c")}) {
		t.Error("changed")
	}
	spoil(put)
	l[1].N = 9
	if !bytes.Equal(d, was) {
		t.Errorf("kept: %x", d)
	}
	whole := period("some words and others ", 500)
	wasWhole := bytes.Clone(whole)
	d = delta.Make(whole[:300], whole[7:400], 5)
	was = bytes.Clone(d)
	spoil(delta.Make(whole[:300], whole[7:400], 5))
	if !bytes.Equal(whole, wasWhole) {
		t.Error("changed")
	}
	spoil(whole)
	if !bytes.Equal(d, was) {
		t.Error("kept")
	}
}
