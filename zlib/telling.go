package zlib

import (
	"slices"

	"trove/bits"
	"trove/huff"
	"trove/limit"
)

// Symbols of the code by which lengths are told; those below them are lengths themselves.
const (
	again     = 16 // the one ahead, 3 times and what two bits hold more
	fewNone   = 17 // 0, 3 times and what three bits hold more
	manyNone  = 18 // 0, 11 times and what seven bits hold more
	ofLengths = 19 // how many symbols that code has
)

// mostLength: three bits tell the length of one of its symbols.
const mostLength = 7

// The fewest lengths that are told of each code.
const (
	leastLiterals  = end + 1
	leastDistances = 1
	leastLengths   = 4
)

// lengthOrder: the symbols of the lengths' code, in the order in which their own lengths stand.
var lengthOrder = [ofLengths]int{16, 17, 18, 0, 8, 7, 9, 6, 10, 5, 11, 4, 12, 3, 13, 2, 14, 1, 15}

// telling is a block's own codes, and how they are told ahead of what stands in it.
type telling struct {
	coding coding
	sizes  [codes]int // how many lengths of each of them are told
	order  []int      // the lengths of the lengths' code that are told
	by     *huff.Code // the lengths' code
	counts []int      // how often each of its symbols comes
	steps  []step     // the lengths of both codes, in one row
}

// newTelling answers the best codes of symbols that come so often.
func newTelling(counts [codes][]int) *telling {
	t := &telling{counts: make([]int, ofLengths)}
	var row []int
	for k, least := range [codes]int{leastLiterals, leastDistances} {
		lens := cut(best(counts[k], huff.MaxBits), least)
		t.coding[k] = codeOf(lens)
		t.sizes[k] = len(lens)
		row = append(row, lens...)
	}
	t.steps = runs(row)
	for _, s := range t.steps {
		t.counts[s.sym]++
	}
	lens := best(t.counts, mostLength)
	t.by = codeOf(lens)
	t.order = cut(inOrder(lens), leastLengths)
	return t
}

// best answers the lengths of a best code of at most most bits a symbol. Without a bound it is found with less work, and mostly keeps the bound. (There is no error: no count is above a block's steps, and there is room for all symbols.)
func best(counts []int, most int) []int {
	lens, _ := limit.Plain(counts)
	if slices.Max(lens) > most {
		lens, _ = limit.Lengths(counts, most)
	}
	return lens
}

// cost answers how many bits the telling takes.
func (t *telling) cost() int {
	n := 5 + 5 + 4 + 3*len(t.order) + t.by.Cost(t.counts)
	for _, s := range t.steps {
		n += s.n
	}
	return n
}

func (t *telling) put(w *bits.Writer) {
	w.Put(t.sizes[literals]-leastLiterals, 5)
	w.Put(t.sizes[distances]-leastDistances, 5)
	w.Put(len(t.order)-leastLengths, 4)
	for _, n := range t.order {
		w.Put(n, 3)
	}
	for _, s := range t.steps {
		s.put(w, t.by)
	}
}

// cut drops the 0s at the end, as long as more than least are left.
func cut(lens []int, least int) []int {
	n := len(lens)
	for n > least && lens[n-1] == 0 {
		n--
	}
	return lens[:n]
}

// inOrder answers the lengths of the lengths' code as they stand.
func inOrder(lens []int) []int {
	var l []int
	for _, sym := range lengthOrder {
		l = append(l, lens[sym])
	}
	return l
}

// runs answers the lengths as symbols of the lengths' code. These are two at least, so that it is complete: the block's end has a length, and others have none or another one, since no code has all 257 symbols and more of one length.
func runs(lens []int) []step {
	var l []step
	for at := 0; at < len(lens); {
		s, n := run(lens[:at], lens[at:])
		l = append(l, s)
		at += n
	}
	return l
}

// run answers a symbol for the first lengths of those that are left, and how many they are.
func run(ahead, left []int) (s step, n int) {
	same := sameAtFront(left)
	switch {
	case left[0] == 0 && same >= 11:
		n = min(same, 138)
		return step{sym: manyNone, more: n - 11, n: 7}, n
	case left[0] == 0 && same >= 3:
		return step{sym: fewNone, more: same - 3, n: 3}, same
	case same >= 3 && len(ahead) > 0 && ahead[len(ahead)-1] == left[0]:
		n = min(same, 6)
		return step{sym: again, more: n - 3, n: 2}, n
	}
	return step{sym: left[0]}, 1
}

// sameAtFront answers how many lengths, from the first on, are the same.
func sameAtFront(lens []int) int {
	n := 1
	for n < len(lens) && lens[n] == lens[0] {
		n++
	}
	return n
}
