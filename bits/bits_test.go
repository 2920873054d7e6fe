package bits_test

import (
	"bytes"
	"math"
	"math/rand"
	"testing"

	"trove/bits"
)

// list: bits one by one, in their order; what the package's answers are held against.
type list []int

func (l list) put(v, n int) list {
	if n < 0 || n > 24 {
		return l
	}
	for k := range n {
		l = append(l, v>>k&1)
	}
	return l
}

func (l list) code(v, n int) list {
	if n < 0 || n > 24 {
		return l
	}
	for k := n - 1; k >= 0; k-- {
		l = append(l, v>>k&1)
	}
	return l
}

func (l list) align() list {
	for len(l)%8 != 0 {
		l = append(l, 0)
	}
	return l
}

func (l list) bytes() []byte {
	b := make([]byte, (len(l)+7)/8)
	for k, bit := range l {
		b[k/8] |= byte(bit << (k % 8))
	}
	return b
}

func listOf(b []byte) list {
	var l list
	for _, c := range b {
		l = l.put(int(c), 8)
	}
	return l
}

func someValues() []int {
	l := []int{0, 1, -1, 2, 5, 0b1101, 0x123456, 0xFFFFFF, 0x1000000, 0x1FFFFFF, -2, -0x123456, 0x0102030405060708, math.MinInt, math.MaxInt}
	for k := range 63 {
		l = append(l, 1<<k, -1<<k)
	}
	return l
}

func wrongCounts() []int {
	return []int{-1, -2, -8, -24, -64, math.MinInt, math.MinInt + 1, 25, 26, 31, 32, 33, 63, 64, 65, 256, 1 << 32, math.MaxInt}
}

func hold(t *testing.T, what string, w *bits.Writer, want list) {
	t.Helper()
	if w.Len() != len(want) {
		t.Fatalf("%s: %d bits, not %d", what, w.Len(), len(want))
	}
	if b := w.Done(); !bytes.Equal(b, want.bytes()) {
		t.Fatalf("%s: %v, not %v", what, b, want.bytes())
	}
}

func TestP201ByHand(t *testing.T) {
	w := bits.NewWriter()
	hold(t, "nothing", w, nil)
	w.Put(0b101, 3)
	if b := w.Done(); !bytes.Equal(b, []byte{0b101}) || w.Len() != 3 {
		t.Errorf("Put: %b, %d", b, w.Len())
	}
	w.Code(0b110, 3)
	if b := w.Done(); !bytes.Equal(b, []byte{0b011101}) || w.Len() != 6 {
		t.Errorf("Code: %b, %d", b, w.Len())
	}
	w.Put(0xABC, 12)
	if b := w.Done(); !bytes.Equal(b, []byte{0b00011101, 0b10101111, 0b10}) || w.Len() != 18 {
		t.Errorf("Put over a byte's end: %b, %d", b, w.Len())
	}
	w.Align()
	if b := w.Done(); !bytes.Equal(b, []byte{0b00011101, 0b10101111, 0b10}) || w.Len() != 24 {
		t.Errorf("Align: %b, %d", b, w.Len())
	}
	w.Align()
	if w.Len() != 24 {
		t.Errorf("Align at a byte's end: %d", w.Len())
	}
	w.Byte(0x5A)
	w.Put(1, 1)
	w.Byte(0xC3)
	if b := w.Done(); !bytes.Equal(b, []byte{0b00011101, 0b10101111, 0b10, 0x5A, 1, 0xC3}) || w.Len() != 48 {
		t.Errorf("Byte: %x, %d", b, w.Len())
	}
}

// TestP201Each: every count, behind each number of bits that wait for their byte's end.
func TestP201Each(t *testing.T) {
	for ahead := range 8 {
		for n := range 25 {
			for _, v := range someValues() {
				start := list(nil).put(-1, ahead)
				w := bits.NewWriter()
				w.Put(-1, ahead)
				w.Put(v, n)
				hold(t, "Put", w, start.put(v, n))
				w.Put(-1, 1)
				hold(t, "Put, and a bit more", w, start.put(v, n).put(1, 1))
				w = bits.NewWriter()
				w.Put(-1, ahead)
				w.Code(v, n)
				hold(t, "Code", w, start.code(v, n))
				w.Code(-1, 1)
				hold(t, "Code, and a bit more", w, start.code(v, n).put(1, 1))
			}
		}
	}
}

func TestP201AlignAndByte(t *testing.T) {
	for n := range 25 {
		for _, v := range []int{0, -1, 0x2C5A93} {
			w := bits.NewWriter()
			w.Put(v, n)
			want := list(nil).put(v, n).align()
			w.Align()
			hold(t, "Align", w, want)
			w.Align()
			hold(t, "Align again", w, want)
			w.Put(v, n)
			w.Byte(0x9D)
			want = want.put(v, n).align().put(0x9D, 8)
			hold(t, "Byte", w, want)
			w.Byte(0xFF)
			w.Byte(0)
			hold(t, "Byte behind a byte", w, want.put(0xFF00>>8, 8).put(0, 8))
		}
	}
}

func TestP201WrongCounts(t *testing.T) {
	for ahead := range 8 {
		for _, n := range wrongCounts() {
			for _, v := range someValues() {
				w := bits.NewWriter()
				w.Put(-1, ahead)
				w.Put(v, n)
				w.Code(v, n)
				hold(t, "a wrong count", w, list(nil).put(-1, ahead))
				w.Put(0, 3)
				hold(t, "behind a wrong count", w, list(nil).put(-1, ahead).put(0, 3))
			}
		}
	}
}

func TestP201Turn(t *testing.T) {
	for _, x := range []struct{ v, n, want int }{
		{0b1101, 4, 0b1011}, {0b1101, 3, 0b101}, {0b1101, 5, 0b10110}, {1, 1, 1}, {1, 2, 2}, {1, 24, 1 << 23}, {1 << 23, 24, 1}, {1 << 24, 24, 0},
		{7, 0, 0}, {-1, 0, 0}, {-1, 24, 0xFFFFFF}, {-2, 24, 0x7FFFFF}, {math.MinInt, 24, 0}, {math.MaxInt, 24, 0xFFFFFF}, {0x123456, 24, 0x6A2C48},
	} {
		if v := bits.Turn(x.v, x.n); v != x.want {
			t.Errorf("Turn(%#x, %d): %#x, not %#x", x.v, x.n, v, x.want)
		}
	}
	for _, v := range someValues() {
		for n := range 25 {
			want := 0
			for k, bit := range list(nil).code(v, n) {
				want |= bit << k
			}
			if x := bits.Turn(v, n); x != want {
				t.Errorf("Turn(%#x, %d): %#x, not %#x", v, n, x, want)
			}
		}
		for _, n := range wrongCounts() {
			if x := bits.Turn(v, n); x != 0 {
				t.Errorf("Turn(%#x, %d): %#x", v, n, x)
			}
		}
	}
}

// TestP201DoneIsNew: what Done answered is its caller's, its spare room too (P2), and Done changes nothing.
func TestP201DoneIsNew(t *testing.T) {
	for n := range 40 {
		w := bits.NewWriter()
		var want list
		for k := range n {
			w.Put(k, 5)
			want = want.put(k, 5)
		}
		first := w.Done()
		for room := first[:cap(first)]; len(room) > 0; room = room[1:] {
			room[0] ^= 0xFF
		}
		hold(t, "behind a changed answer", w, want)
		second := w.Done()
		w.Put(-1, 24)
		w.Byte(0xFF)
		if !bytes.Equal(second, want.bytes()) {
			t.Fatalf("an answer changed: %v", second)
		}
		hold(t, "behind Done", w, want.put(-1, 24).align().put(0xFF, 8))
	}
}

// source: a reader, and what it has to answer.
type source struct {
	r  *bits.Reader
	l  list
	at int
}

func newSource(b []byte) *source { return &source{bits.NewReader(b), listOf(b), 0} }

func (s *source) hold(t *testing.T, what string) {
	t.Helper()
	if s.r.Left() != len(s.l)-s.at || s.r.Past() != (s.at+7)/8 {
		t.Fatalf("%s: %d left, %d past, but %d of %d bits are taken", what, s.r.Left(), s.r.Past(), s.at, len(s.l))
	}
}

func (s *source) get(t *testing.T, n int) {
	t.Helper()
	want, ok := 0, n >= 0 && n <= 24 && n <= len(s.l)-s.at
	if ok {
		for k, bit := range s.l[s.at : s.at+n] {
			want |= bit << k
		}
		s.at += n
	}
	if v, got := s.r.Get(n); v != want || got != ok {
		t.Fatalf("Get(%d): %#x, %v, not %#x, %v", n, v, got, want, ok)
	}
	s.hold(t, "Get")
}

func (s *source) align(t *testing.T) {
	t.Helper()
	s.at = (s.at + 7) / 8 * 8
	s.r.Align()
	s.hold(t, "Align")
}

func someBytes() []byte {
	return []byte{0b11001010, 0b00110101, 0xFF, 0, 0x81, 0x7E, 0x12, 0x34, 0x56}
}

func TestP202ByHand(t *testing.T) {
	r := bits.NewReader([]byte{0b11001010, 0b00110101, 0xFF})
	for _, x := range []struct{ n, want, left, past int }{
		{0, 0, 24, 0}, {1, 0, 23, 1}, {1, 1, 22, 1}, {3, 0b010, 19, 1}, {3, 0b110, 16, 1}, {0, 0, 16, 1}, {4, 0b0101, 12, 2}, {12, 0xFF3, 0, 3}, {0, 0, 0, 3},
	} {
		if v, ok := r.Get(x.n); v != x.want || !ok || r.Left() != x.left || r.Past() != x.past {
			t.Errorf("Get(%d): %b, %v, %d left, %d past", x.n, v, ok, r.Left(), r.Past())
		}
	}
	if v, ok := r.Get(1); v != 0 || ok || r.Left() != 0 || r.Past() != 3 {
		t.Errorf("behind the end: %d, %v", v, ok)
	}
}

func TestP202Each(t *testing.T) {
	for ahead := range 25 {
		for n := range 25 {
			s := newSource(someBytes())
			s.hold(t, "New")
			s.get(t, ahead)
			s.get(t, n)
			s.get(t, 1)
			s.get(t, 24)
		}
	}
}

func TestP202Align(t *testing.T) {
	for n := range 25 {
		s := newSource(someBytes())
		s.align(t)
		s.get(t, n)
		s.align(t)
		s.align(t)
		s.get(t, 7)
		s.align(t)
		s.get(t, 24)
	}
}

// TestP202Ends: fewer are left than are asked for, of every number that may be left.
func TestP202Ends(t *testing.T) {
	for size := range 5 {
		for taken := 0; taken <= 8*size; taken++ {
			s := newSource(someBytes()[:size])
			s.get(t, taken/2)
			s.get(t, taken-taken/2)
			left := s.r.Left()
			for n := left + 1; n <= 26; n++ {
				s.get(t, n)
			}
			s.get(t, min(left, 24))
			s.align(t)
		}
	}
}

func TestP202WrongCounts(t *testing.T) {
	for taken := range 9 {
		for _, n := range wrongCounts() {
			s := newSource(someBytes())
			s.get(t, taken)
			s.get(t, n)
			s.get(t, 11)
		}
	}
}

func TestP202NoBytes(t *testing.T) {
	for _, b := range [][]byte{nil, {}} {
		s := newSource(b)
		s.hold(t, "New")
		s.align(t)
		for n := -1; n <= 25; n++ {
			s.get(t, n)
		}
	}
}

// TestP202KeepsNothing: what was handed in is not changed, and changed later it is not seen (P2).
func TestP202KeepsNothing(t *testing.T) {
	room := append(make([]byte, 0, 32), someBytes()...)
	want := bytes.Clone(room[:32])
	s := newSource(room)
	for range 3 {
		s.get(t, 13)
		s.align(t)
	}
	if !bytes.Equal(room[:32], want) {
		t.Fatalf("changed: %v", room[:32])
	}
	s = newSource(room)
	clear(room[:32])
	for range 8 {
		s.get(t, 9)
	}
}

// TestTwoApart: writers share nothing, and readers of the same bytes neither (P7).
func TestTwoApart(t *testing.T) {
	v, w := bits.NewWriter(), bits.NewWriter()
	v.Put(0x2A, 7)
	w.Put(0x155, 9)
	v.Code(3, 4)
	hold(t, "one", v, list(nil).put(0x2A, 7).code(3, 4))
	hold(t, "the other", w, list(nil).put(0x155, 9))
	b := someBytes()
	r, s := newSource(b), newSource(b)
	r.get(t, 5)
	s.get(t, 20)
	r.get(t, 24)
	s.align(t)
	r.get(t, 3)
	s.get(t, 9)
}

// TestAnyOrder: calls in any order, and then what was written is read.
func TestAnyOrder(t *testing.T) {
	random := rand.New(rand.NewSource(2))
	for range 300 {
		w := bits.NewWriter()
		var want list
		for range random.Intn(60) {
			v, n := int(random.Uint64()), random.Intn(30)-2
			switch random.Intn(5) {
			case 0, 1:
				w.Put(v, n)
				want = want.put(v, n)
			case 2:
				w.Code(v, n)
				want = want.code(v, n)
			case 3:
				w.Align()
				want = want.align()
			case 4:
				w.Byte(byte(v))
				want = want.align().put(v, 8)
			}
			hold(t, "any order", w, want)
		}
		s := newSource(w.Done())
		for s.at < len(s.l) {
			if random.Intn(6) == 0 {
				s.align(t)
			}
			s.get(t, random.Intn(30)-2)
		}
	}
}
