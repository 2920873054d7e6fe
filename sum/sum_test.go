package sum_test

import (
	"bytes"
	"hash/adler32"
	"hash/crc32"
	"math"
	"math/rand"
	"testing"

	"trove/sum"
)

// most: the greatest Adler-32 that there is, both of its sums one below 65521.
const most = 65520<<16 | 65520

func someBytes(seed int64, n int) []byte {
	b := make([]byte, n)
	rand.New(rand.NewSource(seed)).Read(b)
	return b
}

// slowCrc goes bit by bit, as the chapter says it.
func slowCrc(b []byte) uint32 {
	state := uint32(math.MaxUint32)
	for _, v := range b {
		for k := range 8 {
			bit := uint32(v)>>k&1 ^ state&1
			state = state>>1 ^ bit*0xEDB88320
		}
	}
	return ^state
}

// slowAdler cuts both sums down behind each byte.
func slowAdler(adler uint32, b []byte) uint32 {
	s1, s2 := int(adler%65536), int(adler/65536)
	for _, v := range b {
		s1 = (s1 + int(v)) % 65521
		s2 = (s2 + s1) % 65521
	}
	return uint32(s2*65536 + s1)
}

// lengths: about a run of Adler's, and others.
var lengths = []int{0, 1, 2, 3, 7, 8, 9, 255, 256, 257, 3855, 3856, 5551, 5552, 5553, 5554, 11103, 11104, 11105, 16384, 65520, 65521, 65522, 131072}

func TestP401KnownSums(t *testing.T) {
	for _, c := range []struct {
		of         string
		crc, adler uint32
	}{
		{"", 0, 1},
		{"\x00", 0xD202EF8D, 0x00010001},
		{"\xFF", 0xFF000000, 0x01000100},
		{"\x00\x00\x00\x00", 0x2144DF1C, 0x00040001},
		{"\xFF\xFF\xFF\xFF", 0xFFFFFFFF, 0x09FA03FD},
		{"a", 0xE8B7BE43, 0x00620062},
		{"abc", 0x352441C2, 0x024D0127},
		{"message digest", 0x20159D7F, 0x29750586},
		{"123456789", 0xCBF43926, 0x091E01DE},
		{"Wikipedia", 0xADAAC02E, 0x11E60398},
		{"The quick brown fox jumps over the lazy dog", 0x414FA339, 0x5BDC0FDA},
	} {
		b := []byte(c.of)
		if got := sum.Crc(b); got != c.crc {
			t.Errorf("Crc(%q): %08x, not %08x", c.of, got, c.crc)
		}
		if got := sum.Adler(b); got != c.adler {
			t.Errorf("Adler(%q): %08x, not %08x", c.of, got, c.adler)
		}
	}
}

func TestP401OfNothing(t *testing.T) {
	for _, b := range [][]byte{nil, {}, make([]byte, 0, 8)} {
		if got := sum.Crc(b); got != 0 {
			t.Errorf("Crc: %08x", got)
		}
		if got := sum.Adler(b); got != 1 {
			t.Errorf("Adler: %08x", got)
		}
		for _, v := range []uint32{0, 1, 2, 0xABCD1234, most} {
			if got := sum.CrcMore(v, b); got != v {
				t.Errorf("CrcMore(%08x): %08x", v, got)
			}
			if got := sum.AdlerMore(v, b); got != v {
				t.Errorf("AdlerMore(%08x): %08x", v, got)
			}
		}
		if got := sum.CrcMore(math.MaxUint32, b); got != math.MaxUint32 {
			t.Errorf("CrcMore: %08x", got)
		}
	}
}

func TestP401EveryByte(t *testing.T) {
	for v := range 256 {
		for _, b := range [][]byte{{byte(v)}, {byte(v), 0}, {7, byte(v), byte(v)}} {
			if got, want := sum.Crc(b), slowCrc(b); got != want || got != crc32.ChecksumIEEE(b) {
				t.Errorf("Crc(%x): %08x, not %08x", b, got, want)
			}
			if got, want := sum.Adler(b), slowAdler(1, b); got != want || got != adler32.Checksum(b) {
				t.Errorf("Adler(%x): %08x, not %08x", b, got, want)
			}
		}
	}
}

func TestP401EveryLength(t *testing.T) {
	for i, n := range lengths {
		for _, b := range [][]byte{make([]byte, n), bytes.Repeat([]byte{1}, n), bytes.Repeat([]byte{0xFF}, n), someBytes(int64(i), n)} {
			if got, want := sum.Crc(b), slowCrc(b); got != want || got != crc32.ChecksumIEEE(b) {
				t.Errorf("Crc, %d bytes: %08x, not %08x", n, got, want)
			}
			if got, want := sum.Adler(b), slowAdler(1, b); got != want || got != adler32.Checksum(b) {
				t.Errorf("Adler, %d bytes: %08x, not %08x", n, got, want)
			}
		}
	}
	b := someBytes(401, 600)
	for n := range b {
		if got, want := sum.Crc(b[:n]), slowCrc(b[:n]); got != want {
			t.Errorf("Crc, %d bytes: %08x, not %08x", n, got, want)
		}
		if got, want := sum.Adler(b[:n]), slowAdler(1, b[:n]); got != want {
			t.Errorf("Adler, %d bytes: %08x, not %08x", n, got, want)
		}
	}
}

func TestP401EveryBit(t *testing.T) {
	b := someBytes(4010, 40)
	for k := range 8 * len(b) {
		b[k/8] ^= 1 << (k % 8)
		if got, want := sum.Crc(b), slowCrc(b); got != want {
			t.Errorf("Crc, bit %d turned: %08x, not %08x", k, got, want)
		}
		if got, want := sum.Adler(b), slowAdler(1, b); got != want {
			t.Errorf("Adler, bit %d turned: %08x, not %08x", k, got, want)
		}
		b[k/8] ^= 1 << (k % 8)
	}
}

func TestP401MoreAtEveryPlace(t *testing.T) {
	b := someBytes(4011, 700)
	crc, adler := sum.Crc(b), sum.Adler(b)
	for n := range len(b) + 1 {
		if got := sum.CrcMore(sum.Crc(b[:n]), b[n:]); got != crc {
			t.Errorf("CrcMore behind %d bytes: %08x, not %08x", n, got, crc)
		}
		if got := sum.AdlerMore(sum.Adler(b[:n]), b[n:]); got != adler {
			t.Errorf("AdlerMore behind %d bytes: %08x, not %08x", n, got, adler)
		}
		if got := sum.Join(sum.Adler(b[:n]), sum.Adler(b[n:]), len(b)-n); got != adler {
			t.Errorf("Join behind %d bytes: %08x, not %08x", n, got, adler)
		}
	}
}

func TestP401MoreByteByByte(t *testing.T) {
	b := someBytes(4012, 2000)
	crc, adler, joined := sum.Crc(nil), sum.Adler(nil), sum.Adler(nil)
	for n, v := range b {
		one := []byte{v}
		crc, adler, joined = sum.CrcMore(crc, one), sum.AdlerMore(adler, one), sum.Join(joined, sum.Adler(one), 1)
		if want := crc32.ChecksumIEEE(b[:n+1]); crc != want {
			t.Fatalf("CrcMore, %d bytes: %08x, not %08x", n+1, crc, want)
		}
		if want := adler32.Checksum(b[:n+1]); adler != want || joined != want {
			t.Fatalf("AdlerMore, Join, %d bytes: %08x, %08x, not %08x", n+1, adler, joined, want)
		}
	}
}

// Any 32 bits are some bytes' CRC-32.
func TestP401CrcMoreOfAnyCrc(t *testing.T) {
	b := someBytes(4013, 50)
	for _, crc := range []uint32{0, 1, 0x80000000, 0xEDB88320, 0x12345678, math.MaxUint32} {
		if got, want := sum.CrcMore(crc, b), crc32.Update(crc, crc32.IEEETable, b); got != want {
			t.Errorf("CrcMore(%08x): %08x, not %08x", crc, got, want)
		}
	}
}

// Sums that begin as great as may be, and grow by the greatest bytes, must not run over.
func TestP401AdlerMoreOfGreatSums(t *testing.T) {
	for _, adler := range []uint32{0, 1, 65520, 65520 << 16, most - 1, most} {
		for i, n := range lengths {
			for _, b := range [][]byte{make([]byte, n), bytes.Repeat([]byte{0xFF}, n), someBytes(int64(i), n)} {
				if got, want := sum.AdlerMore(adler, b), slowAdler(adler, b); got != want {
					t.Errorf("AdlerMore(%08x), %d bytes: %08x, not %08x", adler, n, got, want)
				}
			}
		}
	}
}

// A sum that comes to 65521 is 0.
func TestP401AdlerAtItsBase(t *testing.T) {
	if got := sum.AdlerMore(65520, []byte{1}); got != 0 {
		t.Errorf("s1: %08x", got)
	}
	if got := sum.AdlerMore(65520<<16|1, []byte{0}); got != 1 {
		t.Errorf("s2: %08x", got)
	}
	if got := sum.Join(65520, 2, 0); got != 0 {
		t.Errorf("Join, s1: %08x", got)
	}
	if got := sum.Join(65520<<16|1, 1<<16|1, 1); got != 1 {
		t.Errorf("Join, s2: %08x", got)
	}
}

func TestP401JoinEveryLength(t *testing.T) {
	for _, a := range []uint32{0, 1, 2, 65520, 65520 << 16, most - 1, most} {
		for i, n := range lengths {
			for _, b := range [][]byte{make([]byte, n), bytes.Repeat([]byte{0xFF}, n), someBytes(int64(i), n)} {
				if got, want := sum.Join(a, sum.Adler(b), n), slowAdler(a, b); got != want {
					t.Errorf("Join(%08x) with %d bytes: %08x, not %08x", a, n, got, want)
				}
			}
		}
	}
}

// Of n bytes that are 0 the Adler-32 is known: 1, and n times 1.
func TestP401JoinOfManyBytes(t *testing.T) {
	for _, n := range []int{1 << 20, 1<<31 - 1, 1 << 40, math.MaxInt - 1, math.MaxInt} {
		times := n % 65521
		for _, a := range []uint32{0, 1, 7, 9<<16 | 65520, most} {
			s1, s2 := int(a%65536), int(a/65536)
			want := uint32((s2+times*s1)%65521)<<16 | uint32(s1)
			if got := sum.Join(a, uint32(times)<<16|1, n); got != want {
				t.Errorf("Join(%08x) with %d bytes: %08x, not %08x", a, n, got, want)
			}
		}
	}
}

func TestP401JoinBelowZero(t *testing.T) {
	for _, n := range []int{0, -1, -5, -65520, -65521, -65522, math.MinInt} {
		for _, a := range []uint32{0, 1, 7, 0x11E60398, most} {
			if got := sum.Join(a, sum.Adler(nil), n); got != a {
				t.Errorf("Join(%08x, 1, %d): %08x", a, n, got)
			}
			if got, want := sum.Join(a, 0x11E60398, n), sum.Join(a, 0x11E60398, 0); got != want {
				t.Errorf("Join(%08x, .., %d): %08x, not %08x", a, n, got, want)
			}
		}
	}
}

// Of halves that are not below 65521 nothing is promised but an end.
func TestP401NoPanic(t *testing.T) {
	b := bytes.Repeat([]byte{0xFF}, 6000)
	for _, v := range []uint32{65521, 65535, 65521 << 16, math.MaxUint32} {
		sum.AdlerMore(v, b)
		for _, n := range []int{math.MinInt, -1, 0, 1, 65521, math.MaxInt} {
			sum.Join(v, v, n)
			sum.Join(v, 1, n)
			sum.Join(1, v, n)
		}
	}
}

func TestP2BytesStay(t *testing.T) {
	whole := someBytes(42, 12000)
	was := bytes.Clone(whole)
	b := whole[100:11000]
	sum.Crc(b)
	sum.CrcMore(5, b)
	sum.Adler(b)
	sum.AdlerMore(5, b)
	if !bytes.Equal(whole, was) {
		t.Error("the bytes were changed")
	}
}

func TestP3TheSameAgain(t *testing.T) {
	b := someBytes(43, 6000)
	crc, adler, joined := sum.CrcMore(9, b), sum.AdlerMore(9, b), sum.Join(9, sum.Adler(b), len(b))
	sum.Crc([]byte("others between"))
	if sum.CrcMore(9, b) != crc || sum.AdlerMore(9, b) != adler || sum.Join(9, sum.Adler(b), len(b)) != joined {
		t.Error("not the same")
	}
}
