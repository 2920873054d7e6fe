package delta

import "trove/api"

const (
	blockSize = 16
	worthCopy = 8 // bytes: a copy has at most 7 itself
)

// Make answers a delta by which base becomes target; effort bounds how many of base's blocks are looked at for each block of target.
func Make(base, target []byte, effort int) []byte {
	if len(base) > api.MaxFile || len(target) > api.MaxFile {
		return nil
	}
	d, _ := Print(len(base), len(target), stepsTo(base, target, effort))
	return d
}

// stepsTo copies the ends that both have first, so that what was put in at one place costs no more, whatever base repeats; blocks are looked for between them alone.
func stepsTo(base, target []byte, effort int) steps {
	front := worth(sameFront(base, target))
	back := worth(sameBack(base, target[front:]))
	end := len(target) - back
	l := steps(nil).copied(0, front)
	l = l.found(base, target[front:end], effort)
	return l.copied(len(base)-back, back)
}

// worth answers n, or 0 if a copy of so few bytes may cost more than it saves.
func worth(n int) int {
	if n < worthCopy {
		return 0
	}
	return n
}

// found answers the steps, and those behind them that make target of base's blocks and of bytes that are put.
func (l steps) found(base, target []byte, effort int) steps {
	told := 0 // the steps make target's bytes ahead of this place
	kept := keepBlocks(base, target, effort)
	for w := newWindow(target, 0); w.fits(); {
		from, n := kept.longest(base, target[w.at:], w.sum, effort)
		if n == 0 {
			w.roll()
			continue
		}
		before := sameBack(base[:from], target[told:w.at]) // it may begin within the block ahead
		l = l.put(target[told : w.at-before])
		l = l.copied(from-before, before+n)
		told = w.at + n
		w = newWindow(target, told)
	}
	return l.put(target[told:])
}

// blocks: by their sums where base's blocks begin, rising.
type blocks map[uint32][]int

// keepBlocks answers base's blocks; none, if none will be looked for.
func keepBlocks(base, target []byte, effort int) blocks {
	kept := blocks{}
	if effort <= 0 || len(target) < blockSize {
		return kept
	}
	for at := 0; at+blockSize <= len(base); at += blockSize {
		sum := newWindow(base, at).sum
		kept[sum] = append(kept[sum], at)
	}
	return kept
}

// longest answers the longest copy that begins with a block of that sum, among the first ones, effort of them, and makes target's front; n is 0, if there is none.
func (k blocks) longest(base, target []byte, sum uint32, effort int) (from, n int) {
	places := k[sum]
	for _, place := range places[:min(len(places), max(effort, 0))] {
		if n == len(target) {
			break
		}
		if place+n >= len(base) || base[place+n] != target[n] { // told by one byte: it is no longer than the best one
			continue
		}
		if m := sameFront(base[place:], target); m >= blockSize && m > n { // unlike blocks may have one sum
			from, n = place, m
		}
	}
	return from, n
}

// factor and its powers weigh the bytes of a window: the last one by 1, each one ahead by factor more, all of 32 bits.
const (
	factor   = 0x9E3779B1
	low32    = 1<<32 - 1
	factor2  = factor * factor & low32
	factor4  = factor2 * factor2 & low32
	factor8  = factor4 * factor4 & low32
	factor16 = factor8 * factor8 & low32 // what a byte that left weighs: blockSize steps ahead of the last one
)

// window is the bytes of b, a block's, from a place on, with their sum, that rolls on with it.
type window struct {
	b   []byte
	at  int
	sum uint32
}

func newWindow(b []byte, at int) *window {
	w := &window{b: b, at: at}
	if w.fits() {
		for _, c := range b[at : at+blockSize] {
			w.sum = w.sum*factor + uint32(c)
		}
	}
	return w
}

// fits tells whether b has a whole block there.
func (w *window) fits() bool { return w.at+blockSize <= len(w.b) }

// roll moves a window that fits by a byte.
func (w *window) roll() {
	left := w.b[w.at]
	w.at++
	if w.fits() {
		w.sum = w.sum*factor + uint32(w.b[w.at+blockSize-1]) - uint32(left)*factor16
	}
}

// sameFront answers how many bytes both begin with.
func sameFront(a, b []byte) int {
	n, most := 0, min(len(a), len(b))
	for n < most && a[n] == b[n] {
		n++
	}
	return n
}

// sameBack answers how many bytes both end with.
func sameBack(a, b []byte) int {
	n, most := 0, min(len(a), len(b))
	for n < most && a[len(a)-1-n] == b[len(b)-1-n] {
		n++
	}
	return n
}
