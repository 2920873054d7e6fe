package huff_test

import (
	"math"
	"math/rand"
	"slices"
	"strings"
	"testing"

	"trove/api"
	"trove/bits"
	"trove/huff"
)

// taken: what a code takes up of 2^15, as the chapter sums it.
func taken(lens []int) int {
	sum := 0
	for _, n := range lens {
		if n != 0 {
			sum += int(math.Pow(2, float64(15-n)))
		}
	}
	return sum
}

// slowCheck says P501 of Check word by word.
func slowCheck(lens []int) (bool, api.Errno) {
	if len(lens) > 288 || slices.ContainsFunc(lens, func(n int) bool { return n < 0 || n > 15 }) {
		return false, api.ErrArg
	}
	if taken(lens) > 1<<15 {
		return false, api.ErrForm
	}
	return taken(lens) == 1<<15, api.OK
}

// slowCodes goes over the lengths, and over all symbols for each of them.
func slowCodes(lens []int) []int {
	codes := make([]int, len(lens))
	next := 0
	for n := 1; n <= 15; n++ {
		next *= 2
		for sym, l := range lens {
			if l == n {
				codes[sym] = next
				next++
			}
		}
	}
	return codes
}

// words: each symbol's code as a text of bits, the highest first; "" for those without.
func words(lens []int) []string {
	l := make([]string, len(lens))
	for sym, code := range slowCodes(lens) {
		for k := lens[sym] - 1; k >= 0; k-- {
			l[sym] += string(rune('0' + code>>k&1))
		}
	}
	return l
}

// slowNext: the symbol whose code text begins with, and how many bits it takes.
func slowNext(lens []int, text string) (sym, used int, err api.Errno) {
	l := words(lens)
	for used = 1; used <= len(text); used++ {
		read, goesOn := text[:used], false
		for sym, word := range l {
			if word == read {
				return sym, used, api.OK
			}
			goesOn = goesOn || strings.HasPrefix(word, read)
		}
		if !goesOn {
			return 0, used, api.ErrForm
		}
	}
	return 0, len(text), api.ErrShort
}

// textOf: the bits of b in their order.
func textOf(b []byte) string {
	var s strings.Builder
	for _, c := range b {
		for k := range 8 {
			s.WriteByte('0' + c>>k&1)
		}
	}
	return s.String()
}

// readerOf: a reader that has just those bits left.
func readerOf(text string) *bits.Reader {
	skip := (8 - len(text)%8) % 8
	w := bits.NewWriter()
	w.Put(0, skip)
	for _, c := range text {
		w.Put(int(c-'0'), 1)
	}
	r := bits.NewReader(w.Done())
	r.Get(skip)
	return r
}

func many(n, length int) []int { return slices.Repeat([]int{length}, n) }

// stairs: a code of one symbol for each of the lengths 1 to n, and a second one of n: complete.
func stairs(n int) []int {
	var l []int
	for k := range n {
		l = append(l, k+1)
	}
	return append(l, n)
}

// literals: DEFLATE's fixed code: the greatest number of symbols.
func literals() []int {
	return slices.Concat(many(144, 8), many(112, 9), many(24, 7), many(8, 8))
}

// grown: a complete code of that many symbols (two at least), by splits at random, among symbols without.
func grown(random *rand.Rand, symbols, without int) []int {
	l := []int{1, 1}
	for len(l) < symbols {
		k := random.Intn(len(l))
		if l[k] < 15 {
			l[k]++
			l = append(l, l[k])
		}
	}
	l = append(l, make([]int, without)...)
	random.Shuffle(len(l), func(i, j int) { l[i], l[j] = l[j], l[i] })
	return l
}

// completeCodes: codes of all sizes that are complete.
func completeCodes() [][]int {
	l := [][]int{{1, 1}, {0, 1, 0, 1}, {2, 1, 2}, {3, 3, 3, 3, 3, 2, 4, 4}, many(4, 2), many(32, 5), many(256, 8), literals()}
	for n := 1; n <= 15; n++ {
		up := stairs(n)
		down := slices.Clone(up)
		slices.Reverse(down)
		l = append(l, up, down, slices.Concat(make([]int, 288-len(up)), up))
	}
	random := rand.New(rand.NewSource(5))
	for k := range 120 {
		symbols := 2 + random.Intn(287)
		if k%2 == 0 {
			symbols = 2 + random.Intn(20)
		}
		l = append(l, grown(random, symbols, random.Intn(289-symbols)))
	}
	return l
}

// halfCodes: those that only half lets pass.
func halfCodes() [][]int {
	l := [][]int{nil, {}, {0}, {0, 0, 0}, make([]int, 288), {1}, {0, 1}, {1, 0}}
	for _, sym := range []int{0, 1, 29, 287} {
		one := make([]int, 288)
		one[sym] = 1
		l = append(l, one)
	}
	return l
}

// shortCodes: not over full, not complete, and not even half.
func shortCodes() [][]int {
	l := [][]int{{2}, {0, 2}, {15}, {1, 2}, {2, 1}, {2, 2, 2}, {1, 15}, {2, 2}, many(255, 8), many(288, 15), many(3, 2)}
	for n := 2; n <= 15; n++ {
		l = append(l, many(1, n), stairs(n)[:n], stairs(n)[1:])
	}
	return l
}

// overCodes: over full, some by the least that there is.
func overCodes() [][]int {
	l := [][]int{{1, 1, 1}, {1, 1, 15}, {15, 1, 1}, many(5, 2), many(257, 8), many(33, 5), many(288, 8), many(288, 1)}
	for n := 1; n <= 15; n++ {
		l = append(l, append(stairs(n), 15), append([]int{15}, stairs(n)...), append(stairs(n), 0, n))
	}
	return append(l, append(literals()[:287], 7))
}

// wrongLengths: no code's lengths.
func wrongLengths() [][]int {
	l := [][]int{make([]int, 289), make([]int, 1000), many(289, 15), append(literals(), 0), {1, 1, 1, 16}, {16, 1, 1, 1}, {1, 1, 1, -1}, append(make([]int, 287), 16)}
	for _, n := range []int{-1, -2, -15, -16, 16, 17, 31, 32, 63, 64, 99, 1 << 20, 1 << 32, math.MinInt, math.MinInt + 1, math.MaxInt} {
		l = append(l, []int{n}, []int{1, n}, []int{n, 1, 1}, []int{1, 1, n}, []int{0, n, 0})
	}
	return l
}

func allLengths() [][]int {
	return slices.Concat(completeCodes(), halfCodes(), shortCodes(), overCodes(), wrongLengths())
}

func made(t *testing.T, lens []int, half bool) *huff.Code {
	t.Helper()
	c, err := huff.New(lens, half)
	if c == nil || err != api.OK {
		t.Fatalf("New(%v, %v): %v", lens, half, err)
	}
	return c
}

func TestP501CheckEachKind(t *testing.T) {
	for _, kind := range []struct {
		lists    [][]int
		complete bool
		err      api.Errno
	}{
		{completeCodes(), true, api.OK}, {halfCodes(), false, api.OK}, {shortCodes(), false, api.OK}, {overCodes(), false, api.ErrForm}, {wrongLengths(), false, api.ErrArg},
	} {
		for _, lens := range kind.lists {
			if complete, err := huff.Check(lens); complete != kind.complete || err != kind.err {
				t.Errorf("Check(%v): %v, %v, not %v, %v", lens, complete, err, kind.complete, kind.err)
			}
		}
	}
}

// everyList calls f with every list of lengths of at most four symbols.
func everyList(f func(lens []int)) {
	for size := range 5 {
		lens := make([]int, size)
		var fill func(at int)
		fill = func(at int) {
			if at == size {
				f(lens)
				return
			}
			for _, n := range []int{0, 1, 2, 3, 4, 14, 15, 16, -1} {
				lens[at] = n
				fill(at + 1)
			}
		}
		fill(0)
	}
}

func TestP501EverySmallList(t *testing.T) {
	everyList(func(lens []int) {
		complete, err := huff.Check(lens)
		if c, e := slowCheck(lens); complete != c || err != e {
			t.Fatalf("Check(%v): %v, %v, not %v, %v", lens, complete, err, c, e)
		}
		var want []int
		if err == api.OK {
			want = slowCodes(lens)
		}
		if codes, e := huff.Codes(lens); e != err || !slices.Equal(codes, want) {
			t.Fatalf("Codes(%v): %v, %v, not %v, %v", lens, codes, e, want, err)
		}
	})
}

// TestP501AroundFull: each complete code, with one length a bit longer or shorter.
func TestP501AroundFull(t *testing.T) {
	for _, lens := range completeCodes() {
		for sym := range lens {
			for _, n := range []int{lens[sym] - 1, lens[sym] + 1} {
				other := slices.Clone(lens)
				other[sym] = n
				complete, err := huff.Check(other)
				if c, e := slowCheck(other); complete != c || err != e {
					t.Fatalf("Check(%v): %v, %v, not %v, %v", other, complete, err, c, e)
				}
			}
		}
	}
}

func TestP501CodesByHand(t *testing.T) {
	for _, x := range []struct{ lens, want []int }{
		{nil, nil},
		{[]int{0, 0}, []int{0, 0}},
		{[]int{1}, []int{0}},
		{[]int{0, 1}, []int{0, 0}},
		{[]int{15}, []int{0}},
		{[]int{1, 1}, []int{0, 1}},
		{[]int{2, 1, 2}, []int{2, 0, 3}},
		{[]int{1, 3}, []int{0, 4}},
		{[]int{15, 0, 1}, []int{1 << 14, 0, 0}},
		{[]int{5, 2, 5, 0, 2}, []int{16, 0, 17, 0, 1}},
		{[]int{3, 3, 3, 3, 3, 2, 4, 4}, []int{2, 3, 4, 5, 6, 0, 14, 15}},
		{stairs(15), []int{0, 2, 6, 14, 30, 62, 126, 254, 510, 1022, 2046, 4094, 8190, 16382, 32766, 32767}},
	} {
		if codes, err := huff.Codes(x.lens); err != api.OK || !slices.Equal(codes, x.want) {
			t.Errorf("Codes(%v): %v, %v, not %v", x.lens, codes, err, x.want)
		}
	}
}

// TestP501CodesFixed: DEFLATE's fixed code, whose codes RFC 1951 writes down.
func TestP501CodesFixed(t *testing.T) {
	codes, err := huff.Codes(literals())
	if err != api.OK || len(codes) != 288 {
		t.Fatalf("%d codes, %v", len(codes), err)
	}
	for _, x := range []struct{ sym, code int }{{0, 0b00110000}, {143, 0b10111111}, {144, 0b110010000}, {255, 0b111111111}, {256, 0}, {279, 0b0010111}, {280, 0b11000000}, {287, 0b11000111}} {
		if codes[x.sym] != x.code {
			t.Errorf("%d: %b, not %b", x.sym, codes[x.sym], x.code)
		}
	}
}

func TestP501CodesOfAll(t *testing.T) {
	for _, lens := range allLengths() {
		var want []int
		_, wantErr := slowCheck(lens)
		if wantErr == api.OK {
			want = slowCodes(lens)
		}
		codes, err := huff.Codes(lens)
		if err != wantErr || !slices.Equal(codes, want) {
			t.Errorf("Codes(%v): %v, %v, not %v, %v", lens, codes, err, want, wantErr)
		}
	}
}

// TestP501NoneBeginsAnother: what makes it a code.
func TestP501NoneBeginsAnother(t *testing.T) {
	for _, lens := range slices.Concat(completeCodes(), shortCodes()) {
		codes, _ := huff.Codes(lens)
		var rows [][2]int // each code as the row of those of 15 bits that it begins
		for sym, n := range lens {
			if n > 0 {
				rows = append(rows, [2]int{codes[sym] << (15 - n), (codes[sym] + 1) << (15 - n)})
			}
		}
		slices.SortFunc(rows, func(a, b [2]int) int { return a[0] - b[0] })
		end := 0
		for _, row := range rows {
			if row[0] != end {
				t.Fatalf("%v: %v", lens, codes)
			}
			end = row[1]
		}
		if end > 1<<15 {
			t.Fatalf("%v: %v", lens, codes)
		}
	}
}

func TestP502New(t *testing.T) {
	for _, kind := range []struct {
		lists     [][]int
		not, half api.Errno
	}{
		{completeCodes(), api.OK, api.OK}, {halfCodes(), api.ErrForm, api.OK}, {shortCodes(), api.ErrForm, api.ErrForm}, {overCodes(), api.ErrForm, api.ErrForm}, {wrongLengths(), api.ErrArg, api.ErrArg},
	} {
		for _, lens := range kind.lists {
			if c, err := huff.New(lens, false); err != kind.not || (c == nil) != (err != api.OK) {
				t.Errorf("New(%v, false): %v, not %v", lens, err, kind.not)
			}
			if c, err := huff.New(lens, true); err != kind.half || (c == nil) != (err != api.OK) {
				t.Errorf("New(%v, true): %v, not %v", lens, err, kind.half)
			}
		}
	}
}

func TestP502PutByHand(t *testing.T) {
	c := made(t, []int{2, 1, 0, 2}, false)
	w := bits.NewWriter()
	for _, sym := range []int{3, 1, 0, 0, 1} {
		if !c.Put(w, sym) {
			t.Errorf("Put(%d)", sym)
		}
	}
	if got := w.Done(); w.Len() != 8 || got[0] != 0b00101011 { // 11 0 10 10 0, from the lowest bit on
		t.Errorf("%d bits, %08b", w.Len(), got)
	}
}

// TestP502PutEach: every symbol's bits, from every place of a byte on; those without write nothing.
func TestP502PutEach(t *testing.T) {
	for _, lens := range slices.Concat(completeCodes(), halfCodes()) {
		c := made(t, lens, true)
		for sym, word := range words(lens) {
			w := bits.NewWriter()
			w.Put(0, sym%8)
			if c.Put(w, sym) != (word != "") {
				t.Fatalf("%v: Put(%d): %v", lens, sym, word == "")
			}
			if w.Len() != sym%8+len(word) || textOf(w.Done())[sym%8:w.Len()] != word {
				t.Fatalf("%v: Put(%d): %s, not %s", lens, sym, textOf(w.Done())[sym%8:w.Len()], word)
			}
		}
	}
}

func TestP502PutNoSymbol(t *testing.T) {
	for _, lens := range slices.Concat(completeCodes(), halfCodes()) {
		c := made(t, lens, true)
		w := bits.NewWriter()
		w.Put(5, 3)
		for _, sym := range []int{-1, -2, -288, math.MinInt, len(lens), len(lens) + 1, max(288, len(lens)), 1 << 32, math.MaxInt} {
			if c.Put(w, sym) || w.Len() != 3 || w.Done()[0] != 5 {
				t.Fatalf("%v: Put(%d) wrote", lens, sym)
			}
		}
	}
}

// TestP502NextEach: every symbol is read, and just its bits are.
func TestP502NextEach(t *testing.T) {
	for _, lens := range slices.Concat(completeCodes(), halfCodes()) {
		c := made(t, lens, true)
		for sym, word := range words(lens) {
			if word == "" {
				continue
			}
			for _, more := range []string{"", "0", "1", "011", "1111111111111111"} {
				r := readerOf(word + more)
				if got, err := c.Next(r); got != sym || err != api.OK || r.Left() != len(more) {
					t.Fatalf("%v: Next of %s and %s: %d, %v, %d left, not %d", lens, word, more, got, err, r.Left(), sym)
				}
			}
		}
	}
}

// TestP502NextShort: every code cut off anywhere.
func TestP502NextShort(t *testing.T) {
	for _, lens := range slices.Concat(completeCodes(), halfCodes()) {
		c := made(t, lens, true)
		for _, word := range append(words(lens), "") {
			for n := range max(len(word), 1) {
				if sym, err := c.Next(readerOf(word[:n])); sym != 0 || err != api.ErrShort {
					t.Fatalf("%v: Next of %s: %d, %v", lens, word[:n], sym, err)
				}
			}
		}
	}
}

// TestP502NextForm: a half code refuses behind the first bit: no second one is asked for.
func TestP502NextForm(t *testing.T) {
	for _, lens := range halfCodes() {
		c := made(t, lens, true)
		none := !slices.Contains(lens, 1)
		for _, more := range []string{"", "0", "1", "0101", "1111111111111111111"} {
			r := readerOf("1" + more)
			if sym, err := c.Next(r); sym != 0 || err != api.ErrForm || r.Left() != len(more) {
				t.Errorf("%v: Next of 1%s: %d, %v, %d left", lens, more, sym, err, r.Left())
			}
			r = readerOf("0" + more)
			sym, err := c.Next(r)
			if none && (sym != 0 || err != api.ErrForm) || !none && (sym != slices.Index(lens, 1) || err != api.OK) || r.Left() != len(more) {
				t.Errorf("%v: Next of 0%s: %d, %v, %d left", lens, more, sym, err, r.Left())
			}
		}
	}
}

// TestP502NextOfAnyBytes: symbol by symbol, up to the end, as the slow way reads them.
func TestP502NextOfAnyBytes(t *testing.T) {
	random := rand.New(rand.NewSource(502))
	for _, lens := range slices.Concat(completeCodes(), halfCodes()) {
		c := made(t, lens, true)
		b := make([]byte, 12)
		random.Read(b)
		r, text := bits.NewReader(b), textOf(b)
		for {
			sym, used, wantErr := slowNext(lens, text)
			got, err := c.Next(r)
			if got != sym || err != wantErr {
				t.Fatalf("%v: Next of %s: %d, %v, not %d, %v", lens, text, got, err, sym, wantErr)
			}
			if err == api.ErrShort {
				break
			}
			if text = text[used:]; r.Left() != len(text) {
				t.Fatalf("%v: %d left, not %d", lens, r.Left(), len(text))
			}
		}
	}
}

// TestP502ThereAndBack: what is put is read, and costs what Cost says.
func TestP502ThereAndBack(t *testing.T) {
	random := rand.New(rand.NewSource(503))
	for _, lens := range completeCodes() {
		c, counts := made(t, lens, false), make([]int, len(lens))
		w := bits.NewWriter()
		var put []int
		for len(put) < 200 {
			if sym := random.Intn(len(lens)); c.Put(w, sym) {
				put = append(put, sym)
				counts[sym]++
			}
		}
		if cost := c.Cost(counts); cost != w.Len() {
			t.Fatalf("%v: Cost %d, but %d bits", lens, cost, w.Len())
		}
		r := bits.NewReader(w.Done())
		for _, sym := range put {
			if got, err := c.Next(r); got != sym || err != api.OK {
				t.Fatalf("%v: Next: %d, %v, not %d", lens, got, err, sym)
			}
		}
	}
}

func TestP502CostByHand(t *testing.T) {
	for _, x := range []struct {
		lens, counts []int
		want         int
	}{
		{[]int{2, 1, 0, 2}, []int{1, 10, 0, 100}, 212},
		{[]int{2, 1, 0, 2}, []int{1, 10, 1000, 100}, 212},
		{[]int{2, 1, 0, 2}, nil, 0},
		{[]int{2, 1, 0, 2}, []int{}, 0},
		{[]int{2, 1, 0, 2}, []int{3}, 6},
		{[]int{2, 1, 0, 2}, []int{3, 4}, 10},
		{[]int{2, 1, 0, 2}, []int{1, 1, 1, 1, 7, 1 << 30, -1, math.MinInt}, 5},
		{[]int{2, 1, 0, 2}, []int{1 << 30, 1 << 30, 1 << 30, 1 << 30}, 5 << 30},
		{[]int{0, 1}, []int{7, 9, 11}, 9},
		{nil, []int{1, 2, 3}, 0},
		{[]int{0, 0}, []int{1, 2, 3}, 0},
		{many(256, 8), many(256, 1<<30), 1 << 41},
		{many(256, 8), many(300, 1<<30), 1 << 41},
	} {
		if got := made(t, x.lens, true).Cost(x.counts); got != x.want {
			t.Errorf("%v: Cost(%v): %d, not %d", x.lens, x.counts, got, x.want)
		}
	}
}

func TestP502CostOfEach(t *testing.T) {
	for _, lens := range slices.Concat(completeCodes(), halfCodes()) {
		c := made(t, lens, true)
		for sym, n := range lens {
			for _, count := range []int{0, 1, 3, 1 << 30} {
				counts := make([]int, sym+1)
				counts[sym] = count
				if got := c.Cost(counts); got != n*count {
					t.Fatalf("%v: Cost of %d times %d: %d", lens, count, sym, got)
				}
			}
		}
	}
}

// Of counts that may not be, only an end is promised.
func TestP1NoPanic(t *testing.T) {
	c := made(t, literals(), false)
	for _, n := range []int{-1, 1<<30 + 1, math.MinInt, math.MaxInt} {
		c.Cost(many(288, n))
	}
}

// TestP2NothingKept: lengths are not changed, and changed later they are not seen; answers are their caller's, spare room too.
func TestP2NothingKept(t *testing.T) {
	for _, lens := range allLengths() {
		room := append(slices.Grow([]int(nil), len(lens)+8), lens...)
		whole := room[:cap(room)]
		for k := len(lens); k < len(whole); k++ {
			whole[k] = -7
		}
		was := slices.Clone(whole)
		huff.Check(room)
		codes, _ := huff.Codes(room)
		c, _ := huff.New(room, true)
		if !slices.Equal(whole, was) {
			t.Fatalf("%v: changed", lens)
		}
		clear(whole)
		for k := range codes[:cap(codes)] {
			codes[:cap(codes)][k] = -1
		}
		if c == nil {
			continue
		}
		for sym, word := range words(lens) {
			w := bits.NewWriter()
			if c.Put(w, sym); textOf(w.Done())[:w.Len()] != word {
				t.Fatalf("%v: Put(%d) behind a change", lens, sym)
			}
			if got, err := c.Next(readerOf(word)); word != "" && (got != sym || err != api.OK) {
				t.Fatalf("%v: Next behind a change: %d, %v", lens, got, err)
			}
		}
		if cost := c.Cost(many(len(lens), 1)); cost != len(strings.Join(words(lens), "")) {
			t.Fatalf("%v: Cost behind a change: %d", lens, cost)
		}
	}
}

func TestP2CountsStay(t *testing.T) {
	whole := many(300, 3)
	made(t, literals(), false).Cost(whole[:290])
	if !slices.Equal(whole, many(300, 3)) {
		t.Error("changed")
	}
}

// TestP3TheSameAgain: a code keeps nothing of what was read and written, and codes share nothing (P7).
func TestP3TheSameAgain(t *testing.T) {
	c, other := made(t, stairs(15), false), made(t, []int{1, 1}, false)
	for range 3 {
		for sym, word := range words(stairs(15)) {
			other.Put(bits.NewWriter(), sym)
			other.Next(readerOf("1"))
			c.Next(readerOf(word[:len(word)-1]))
			if got, err := c.Next(readerOf(word)); got != sym || err != api.OK {
				t.Fatalf("Next of %s: %d, %v", word, got, err)
			}
			w := bits.NewWriter()
			if !c.Put(w, sym) || textOf(w.Done())[:w.Len()] != word {
				t.Fatalf("Put(%d)", sym)
			}
		}
	}
}
