package inflate_test

import (
	"slices"
	"strings"

	"trove/api"
	"trove/bits"
	"trove/huff"
	"trove/limit"
)

// The tables of RFC 1951, 3.2.5.
var (
	lengthBases   = []int{3, 4, 5, 6, 7, 8, 9, 10, 11, 13, 15, 17, 19, 23, 27, 31, 35, 43, 51, 59, 67, 83, 99, 115, 131, 163, 195, 227, 258}
	lengthExtra   = []int{0, 0, 0, 0, 0, 0, 0, 0, 1, 1, 1, 1, 2, 2, 2, 2, 3, 3, 3, 3, 4, 4, 4, 4, 5, 5, 5, 5, 0}
	distanceBases = []int{1, 2, 3, 4, 5, 7, 9, 13, 17, 25, 33, 49, 65, 97, 129, 193, 257, 385, 513, 769, 1025, 1537, 2049, 3073, 4097, 6145, 8193, 12289, 16385, 24577}
	distanceExtra = []int{0, 0, 0, 0, 1, 1, 2, 2, 3, 3, 4, 4, 5, 5, 6, 6, 7, 7, 8, 8, 9, 9, 10, 10, 11, 11, 12, 12, 13, 13}
	order         = []int{16, 17, 18, 0, 8, 7, 9, 6, 10, 5, 11, 4, 12, 3, 13, 2, 14, 1, 15}
)

func many(n, v int) []int { return slices.Repeat([]int{v}, n) }

// with: n lengths, 0 but for those named by pairs of symbol and length.
func with(n int, pairs ...int) []int {
	l := make([]int, n)
	for k := 0; k < len(pairs); k += 2 {
		l[pairs[k]] = pairs[k+1]
	}
	return l
}

func fixedLiterals() []int {
	return slices.Concat(many(144, 8), many(112, 9), many(24, 7), many(8, 8))
}

// maker writes blocks; the codes are those of the block that is being written.
type maker struct {
	*bits.Writer
	lit, dist *huff.Code
}

func code(lens []int) *huff.Code {
	c, err := huff.New(lens, true)
	if err != api.OK {
		c, _ = huff.New(nil, true) // a block that is refused ahead of its symbols
	}
	return c
}

func begin() *maker { return &maker{Writer: bits.NewWriter()} }

func (m *maker) head(last, kind int) *maker {
	m.Put(last, 1)
	m.Put(kind, 2)
	return m
}

func (m *maker) put(v, n int) *maker {
	m.Put(v, n)
	return m
}

func (m *maker) stored(last int, b string) *maker {
	m.head(last, 0)
	m.Align()
	m.Put(len(b), 16)
	m.Put(^len(b), 16)
	for k := range len(b) {
		m.Byte(b[k])
	}
	return m
}

func (m *maker) fixed(last int) *maker {
	m.head(last, 1)
	m.lit, m.dist = code(fixedLiterals()), code(many(32, 5))
	return m
}

// sized: a block of its own codes up to the lengths of the lengths' code: those of all 19 symbols.
func (m *maker) sized(last, literals, dists int, lens []int) *maker {
	m.head(last, 2).put(literals-257, 5).put(dists-1, 5).put(15, 4)
	for _, sym := range order {
		m.Put(lens[sym], 3)
	}
	m.lit = code(lens)
	return m
}

// plain: the lengths' code that has 0 to 15 of five bits, and 16 to 18: complete.
func plain() []int { return append(many(16, 5), 2, 3, 3) }

// own: a block of these codes, each length of which is written as it is.
func (m *maker) own(last int, lit, dist []int) *maker {
	m.sized(last, len(lit), len(dist), plain())
	for _, n := range slices.Concat(lit, dist) {
		m.sym(n)
	}
	m.lit, m.dist = code(lit), code(dist)
	return m
}

// step: a symbol of the lengths' code, and what stands behind it.
type step struct{ sym, v, n int }

// steps: lengths as symbols, with runs where the choice (of a number of ways) has it so.
func steps(lens []int, choose func(ways int) int) []step {
	var l []step
	for at := 0; at < len(lens); {
		same := 1
		for at+same < len(lens) && lens[at+same] == lens[at] {
			same++
		}
		long := 3 + choose(138-3+1)
		x := step{lens[at], 0, 0}
		n := 1
		switch {
		case lens[at] == 0 && same >= 11 && long >= 11:
			n = min(same, long)
			x = step{18, n - 11, 7}
		case lens[at] == 0 && same >= 3 && choose(4) > 0:
			n = min(same, long, 10)
			x = step{17, n - 3, 3}
		case at > 0 && lens[at-1] == lens[at] && same >= 3 && choose(4) > 0:
			n = min(same, long, 6)
			x = step{16, n - 3, 2}
		}
		l = append(l, x)
		at += n
	}
	return l
}

// told: a block of these codes, with as few lengths of lengths as do.
func (m *maker) told(last int, lit, dist []int, choose func(ways int) int) *maker {
	l := steps(slices.Concat(lit, dist), choose)
	counts := make([]int, 19)
	counts[0], counts[18] = 1, 1 // two at least: the code must be complete
	for _, x := range l {
		counts[x.sym]++
	}
	lens, _ := limit.Lengths(counts, 7)
	n := 19
	for lens[order[n-1]] == 0 {
		n--
	}
	m.head(last, 2).put(len(lit)-257, 5).put(len(dist)-1, 5).put(n-4, 4)
	for _, sym := range order[:n] {
		m.Put(lens[sym], 3)
	}
	m.lit = code(lens)
	for _, x := range l {
		m.sym(x.sym).put(x.v, x.n)
	}
	m.lit, m.dist = code(lit), code(dist)
	return m
}

func (m *maker) sym(n int) *maker {
	m.lit.Put(m.Writer, n)
	return m
}

func (m *maker) far(n int) *maker {
	m.dist.Put(m.Writer, n)
	return m
}

func (m *maker) text(s string) *maker {
	for k := range len(s) {
		m.sym(int(s[k]))
	}
	return m
}

func (m *maker) length(n int) *maker {
	k, _ := slices.BinarySearch(lengthBases, n+1)
	return m.sym(256+k).put(n-lengthBases[k-1], lengthExtra[k-1])
}

func (m *maker) copy(n, dist int) *maker {
	m.length(n)
	k, _ := slices.BinarySearch(distanceBases, dist+1)
	return m.far(k-1).put(dist-distanceBases[k-1], distanceExtra[k-1])
}

func (m *maker) end() *maker { return m.sym(256) }

// reader: the bits so far, without those that fill the last byte (they stand in front instead, and are taken).
func (m *maker) reader() *bits.Reader { return readerOf(textOf(m.Done())[:m.Len()]) }

// textOf: the bits of b in their order.
func textOf(b []byte) string {
	var s strings.Builder
	for _, c := range b {
		for k := range 8 {
			s.WriteByte('0' + c>>k&1)
		}
	}
	return s.String()
}

// readerOf: a reader that has just those bits left.
func readerOf(text string) *bits.Reader {
	skip := (8 - len(text)%8) % 8
	w := bits.NewWriter()
	w.Put(0, skip)
	for _, c := range text {
		w.Put(int(c-'0'), 1)
	}
	r := bits.NewReader(w.Done())
	r.Get(skip)
	return r
}
