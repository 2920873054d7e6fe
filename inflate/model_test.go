package inflate_test

import (
	"bytes"
	"slices"
	"strings"
	"testing"

	"trove/api"
	"trove/inflate"
)

// model says the chapter once more, slowly: bits are a text, codes are maps of such texts, an error is a panic.
type model struct {
	text string
	at   int
	out  []byte
	most int
}

func (m *model) bit() byte {
	if m.at == len(m.text) {
		panic(api.ErrShort)
	}
	m.at++
	return m.text[m.at-1]
}

func (m *model) number(n int) int {
	if len(m.text)-m.at < n {
		panic(api.ErrShort)
	}
	v := 0
	for k := range n {
		v += int(m.bit()-'0') << k
	}
	return v
}

func demand(ok bool, err api.Errno) {
	if !ok {
		panic(err)
	}
}

func (m *model) put(b byte) {
	demand(len(m.out) < m.most, api.ErrLong)
	m.out = append(m.out, b)
}

// words: the symbols by their codes.
func words(lens []int) map[string]int {
	l := map[string]int{}
	next := 0
	for n := 1; n <= 15; n++ {
		next *= 2
		for sym, length := range lens {
			if length == n {
				word := ""
				for k := n - 1; k >= 0; k-- {
					word += string(rune('0' + next>>k&1))
				}
				l[word] = sym
				next++
			}
		}
	}
	return l
}

// demandCode: complete, or, if half is let pass, of no symbol, or of one of one bit.
func demandCode(lens []int, half bool) map[string]int {
	sum, symbols, ones := 0, 0, 0
	for _, n := range lens {
		if n > 0 {
			sum += 1 << (15 - n)
			symbols++
		}
		if n == 1 {
			ones++
		}
	}
	demand(sum == 1<<15 || half && (symbols == 0 || symbols == 1 && ones == 1), api.ErrForm)
	return words(lens)
}

func (m *model) next(l map[string]int) int {
	read := ""
	for {
		read += string(rune(m.bit()))
		if sym, ok := l[read]; ok {
			return sym
		}
		demand(len(l) > 1 && len(read) < 15, api.ErrForm)
	}
}

func (m *model) block() (last bool) {
	last = m.number(1) == 1
	switch m.number(2) {
	case 0:
		for m.at%8 != 0 {
			m.at++
		}
		n := m.number(16)
		demand(len(m.out)+n <= m.most, api.ErrLong)
		demand(m.number(16) == 65535-n, api.ErrForm)
		for range n {
			m.put(byte(m.number(8)))
		}
	case 1:
		m.symbols(words(fixedLiterals()), words(many(32, 5)))
	case 2:
		m.symbols(m.codes())
	case 3:
		panic(api.ErrForm)
	}
	return last
}

func (m *model) codes() (lit, dist map[string]int) {
	literals := m.number(5) + 257
	demand(literals <= 286, api.ErrForm)
	dists := m.number(5) + 1
	demand(dists <= 30, api.ErrForm)
	small := make([]int, 19)
	for _, sym := range order[:m.number(4)+4] {
		small[sym] = m.number(3)
	}
	l := demandCode(small, false)
	var lens []int
	for len(lens) < literals+dists {
		switch sym := m.next(l); sym {
		case 16:
			demand(len(lens) > 0, api.ErrForm)
			lens = append(lens, many(m.number(2)+3, lens[len(lens)-1])...)
		case 17:
			lens = append(lens, many(m.number(3)+3, 0)...)
		case 18:
			lens = append(lens, many(m.number(7)+11, 0)...)
		default:
			lens = append(lens, sym)
		}
	}
	demand(len(lens) == literals+dists && lens[256] > 0, api.ErrForm)
	return demandCode(lens[:literals], true), demandCode(lens[literals:], true)
}

func (m *model) symbols(lit, dist map[string]int) {
	for {
		sym := m.next(lit)
		if sym == 256 {
			return
		}
		if sym < 256 {
			m.put(byte(sym))
			continue
		}
		demand(sym <= 285, api.ErrForm)
		n := lengthBases[sym-257] + m.number(lengthExtra[sym-257])
		far := m.next(dist)
		demand(far <= 29, api.ErrForm)
		back := distanceBases[far] + m.number(distanceExtra[far])
		demand(back <= len(m.out), api.ErrForm)
		for range n {
			m.put(m.out[len(m.out)-back])
		}
	}
}

// caught: the error of a panic of the model.
func caught(err *api.Errno) {
	if x := recover(); x != nil {
		*err = x.(api.Errno)
	}
}

func (m *model) all() (err api.Errno) {
	defer caught(&err)
	for !m.block() {
	}
	return api.OK
}

func (m *model) one() (last bool, err api.Errno) {
	defer caught(&err)
	return m.block(), api.OK
}

// check holds Inflate against the model, and answers what it said.
func check(t *testing.T, b []byte, most int) ([]byte, api.Errno) {
	t.Helper()
	m := &model{text: textOf(b), most: most}
	wantErr := m.all()
	want, wantUsed := m.out, (m.at+7)/8
	if wantErr != api.OK {
		want, wantUsed = nil, 0
	}
	out, used, err := inflate.Inflate(b, most)
	if err != wantErr || used != wantUsed || !bytes.Equal(out, want) {
		t.Fatalf("Inflate(%x, %d): %d bytes, %d, %v, not %d, %d, %v", b, most, len(out), used, err, len(want), wantUsed, wantErr)
	}
	return out, err
}

// checkBlocks holds Block against the model, block by block, from a place within a byte on.
func checkBlocks(t *testing.T, text string, ahead []byte, most int) {
	t.Helper()
	r := readerOf(text)
	skip := (8 - len(text)%8) % 8
	m := &model{text: strings.Repeat("0", skip) + text, at: skip, out: slices.Clone(ahead), most: most}
	for {
		left, past := r.Left(), r.Past()
		wantLast, wantErr := m.one()
		out, last, err := inflate.Block(r, ahead, most)
		if wantErr != api.OK {
			if err != wantErr || len(out) != 0 || last || r.Left() != left || r.Past() != past {
				t.Fatalf("Block of %s behind %d, %d: %d bytes, %v, %v, not %v; %d left of %d", text, len(ahead), most, len(out), last, err, wantErr, r.Left(), left)
			}
			return
		}
		if err != api.OK || last != wantLast || !bytes.Equal(out, m.out) || r.Left() != len(m.text)-m.at || r.Past() != (m.at+7)/8 {
			t.Fatalf("Block of %s behind %d, %d: %d bytes, %v, %v, not %d, %v; %d left", text, len(ahead), most, len(out), last, err, len(m.out), wantLast, r.Left())
		}
		if last {
			return
		}
		ahead = out
	}
}

// tells: Inflate of what was made tells want, and touches all of it.
func tells(t *testing.T, name string, m *maker, want string) {
	t.Helper()
	b := m.Done()
	out, used, err := inflate.Inflate(b, len(want))
	if err != api.OK || used != len(b) || string(out) != want {
		t.Errorf("%s: %q, %d, %v, not %q, %d", name, out, used, err, want, len(b))
	}
}

// fails: a block of just these bits answers err, behind out.
func fails(t *testing.T, name string, m *maker, out string, most int, err api.Errno) {
	t.Helper()
	if all, last, got := inflate.Block(m.reader(), []byte(out), most); got != err || len(all) != 0 || last {
		t.Errorf("%s: %q, %v, %v, not %v", name, all, last, got, err)
	}
}
