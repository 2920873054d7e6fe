package zlib

import (
	"sort"

	"trove/bits"
	"trove/huff"
	"trove/inflate"
	"trove/lz"
)

const (
	mostStored = 1<<16 - 1 // bytes of a stored block: its length has two bytes
	mostTokens = 1 << 14   // tokens of a block: few enough that its codes fit it, many enough that they pay for being told
)

// The kinds of blocks, by their numbers.
const (
	storedKind = iota
	fixedKind
	toldKind
)

// headBits: that it is the last, and its kind.
const headBits = 3

// The codes of a block.
const (
	literals = iota // and the block's end, and lengths
	distances
	codes // how many there are
)

// Symbols of these codes.
const (
	end         = 256
	firstLength = end + 1
	lengthSyms  = 29
	distSyms    = 30
)

// step is a symbol of one of the codes, and n bits behind it that hold the number more.
type step struct {
	code, sym int
	more, n   int
}

// coding is a code for each of a block's.
type coding [codes]*huff.Code

// block is a piece of what is written.
type block struct {
	data   []byte
	last   bool
	steps  []step       // they make the data
	counts [codes][]int // how often each symbol comes in them
	extra  int          // how many bits stand behind their symbols
	fixed  coding
	told   *telling // codes of its own
}

// kind is a way to write a block: how many bits it takes from a place on, and the writing of it.
type kind struct {
	cost func(x *block, at int) int
	put  func(x *block, w *bits.Writer)
}

// kinds: of those that cost the same the first one is taken, which is read with less work.
func kinds() []kind {
	return []kind{
		storedKind: {(*block).storedCost, (*block).putStored},
		fixedKind:  {(*block).fixedCost, (*block).putFixed},
		toldKind:   {(*block).toldCost, (*block).putTold},
	}
}

// newBlocks cuts b by the tokens that make it; of no bytes there is a block too.
func newBlocks(b []byte, tokens []lz.Token) []*block {
	var l []*block
	for last := false; !last; {
		n := min(len(tokens), mostTokens)
		last = n == len(tokens)
		size := lz.Size(tokens[:n])
		l = append(l, newBlock(b[:size], tokens[:n], last))
		b, tokens = b[size:], tokens[n:]
	}
	return l
}

func newBlock(data []byte, tokens []lz.Token, last bool) *block {
	x := &block{data: data, last: last, steps: stepsOf(tokens)}
	x.counts = [codes][]int{make([]int, firstLength+lengthSyms), make([]int, distSyms)}
	for _, s := range x.steps {
		x.counts[s.code][s.sym]++
		x.extra += s.n
	}
	x.fixed = fixedCoding()
	x.told = newTelling(x.counts)
	return x
}

// stepsOf answers the tokens as symbols, and the block's end behind them.
func stepsOf(tokens []lz.Token) []step {
	var l []step
	for _, t := range tokens {
		if t.Len == 0 {
			l = append(l, step{code: literals, sym: int(t.Lit)})
			continue
		}
		length := stepOf(t.Len, firstLength, lengthSyms, inflate.Length)
		dist := stepOf(t.Dist, 0, distSyms, inflate.Distance)
		length.code, dist.code = literals, distances
		l = append(l, length, dist)
	}
	return append(l, step{code: literals, sym: end})
}

// stepOf answers the last one of count symbols, from first on, whose base is not above v, and what it lacks of v.
func stepOf(v, first, count int, tell func(sym int) (base, extra int, ok bool)) step {
	above := sort.Search(count, func(k int) bool {
		base, _, _ := tell(first + k)
		return base > v
	})
	sym := first + above - 1
	base, extra, _ := tell(sym)
	return step{sym: sym, more: v - base, n: extra}
}

// put writes the block as the kind that costs the least.
func (x *block) put(w *bits.Writer) {
	all := kinds()
	cheapest := all[0]
	for _, k := range all[1:] {
		if k.cost(x, w.Len()) < cheapest.cost(x, w.Len()) {
			cheapest = k
		}
	}
	cheapest.put(x, w)
}

func putHead(w *bits.Writer, last bool, kind int) {
	final := 0
	if last {
		final = 1
	}
	w.Put(final, 1)
	w.Put(kind, 2)
}

// storedSize answers how many bytes n bytes take, stored from a byte's beginning on.
func storedSize(n int) int { return n + 5*storedBlocks(n) }

// storedBlocks answers how many blocks n bytes are stored in.
func storedBlocks(n int) int {
	if n%mostStored == 0 {
		return max(n/mostStored, 1)
	}
	return n/mostStored + 1
}

// storedCost: only the first head begins where the block does, and is filled up from there; the others have a byte each.
func (x *block) storedCost(at int) int {
	const byteBits = 8
	passed := (at + headBits) % byteBits
	first := headBits + (byteBits-passed)%byteBits
	return first - byteBits + byteBits*storedSize(len(x.data))
}

// putStored writes as many blocks as the data need.
func (x *block) putStored(w *bits.Writer) {
	data := x.data
	for ended := false; !ended; {
		n := min(len(data), mostStored)
		ended = n == len(data)
		putHead(w, x.last && ended, storedKind)
		w.Align()
		w.Put(n, 16)
		w.Put(^n, 16)
		for _, v := range data[:n] {
			w.Byte(v)
		}
		data = data[n:]
	}
}

func (x *block) fixedCost(_ int) int { return headBits + x.cost(x.fixed) }

func (x *block) putFixed(w *bits.Writer) {
	putHead(w, x.last, fixedKind)
	x.putSteps(w, x.fixed)
}

func (x *block) toldCost(_ int) int { return headBits + x.told.cost() + x.cost(x.told.coding) }

func (x *block) putTold(w *bits.Writer) {
	putHead(w, x.last, toldKind)
	x.told.put(w)
	x.putSteps(w, x.told.coding)
}

// cost answers how many bits the steps take by these codes.
func (x *block) cost(by coding) int {
	n := x.extra
	for k, code := range by {
		n += code.Cost(x.counts[k])
	}
	return n
}

func (x *block) putSteps(w *bits.Writer, by coding) {
	for _, s := range x.steps {
		s.put(w, by[s.code])
	}
}

func (s step) put(w *bits.Writer, code *huff.Code) {
	code.Put(w, s.sym)
	w.Put(s.more, s.n)
}

func fixedCoding() coding {
	lit, dist := inflate.Fixed()
	return coding{codeOf(lit), codeOf(dist)}
}

// codeOf answers the code of lengths that make one: the fixed ones, and those that package limit answers, always do.
func codeOf(lens []int) *huff.Code {
	code, _ := huff.New(lens, true)
	return code
}
