package delta

import (
	"trove/api"
	"trove/bin"
)

const (
	copyBit   = 0x80
	fromBytes = 4
	nBytes    = 3
	maxFrom   = 1<<32 - 1
	maxCopy   = 1 << 16 // bytes of a copy that is printed; one that is read may have more
	maxData   = 127
)

// steps: those of a delta, one behind the other.
type steps []Op

// readSteps takes all of them off r.
func readSteps(r *bin.Reader) (steps, api.Errno) {
	var l steps
	for r.Left() > 0 {
		switch head := r.U8(); {
		case head == 0:
			return nil, api.ErrForm
		case head < copyBit:
			l = append(l, Op{Data: r.Bytes(head)})
		default:
			l = append(l, readCopy(r, head))
		}
	}
	if r.Err() != api.OK {
		return nil, r.Err()
	}
	return l, api.OK
}

func readCopy(r *bin.Reader, head int) Op {
	o := Op{Copy: true}
	o.From = readSparse(r, head, fromBytes)
	o.N = readSparse(r, head>>fromBytes, nBytes)
	if o.N == 0 {
		o.N = maxCopy
	}
	return o
}

// readSparse takes a number of which only those bytes follow whose bits are set, the lowest first.
func readSparse(r *bin.Reader, set, size int) int {
	v := 0
	for k := range size {
		if set>>k&1 == 1 {
			v |= r.U8() << (8 * k)
		}
	}
	return v
}

// within tells whether no copy leads beyond the end of a base of so many bytes.
func (l steps) within(base int) bool {
	for _, o := range l {
		if o.Copy && o.From+o.N > base {
			return false
		}
	}
	return true
}

// size answers how many bytes the steps make.
func (l steps) size() int {
	n := 0
	for _, o := range l {
		n += o.N + len(o.Data) // each step has just one of them
	}
	return n
}

// apply answers what steps that are within base make: so many bytes.
func (l steps) apply(base []byte, size int) []byte {
	out := make([]byte, 0, size)
	for _, o := range l {
		if o.Copy {
			out = append(out, base[o.From:o.From+o.N]...)
		} else {
			out = append(out, o.Data...)
		}
	}
	return out
}

// printable tells whether a delta can say all of them.
func (l steps) printable() bool {
	for _, o := range l {
		if !o.isCopy() && !o.isData() {
			return false
		}
	}
	return true
}

func (o Op) isCopy() bool {
	return o.Copy && 0 <= o.From && o.From <= maxFrom && 1 <= o.N && o.N <= maxCopy && len(o.Data) == 0
}

func (o Op) isData() bool {
	return !o.Copy && o.From == 0 && o.N == 0 && 1 <= len(o.Data) && len(o.Data) <= maxData
}

// print answers d, and the steps behind it.
func (l steps) print(d []byte) []byte {
	for _, o := range l {
		if o.Copy {
			d = o.printCopy(d)
		} else {
			d = append(append(d, byte(len(o.Data))), o.Data...)
		}
	}
	return d
}

func (o Op) printCopy(d []byte) []byte {
	head := len(d)
	d = append(d, copyBit)
	d, from := printSparse(d, o.From, fromBytes)
	d, n := printSparse(d, o.N%maxCopy, nBytes) // no byte at all says the most
	d[head] |= from | n<<fromBytes
	return d
}

// printSparse answers d, and those of v's bytes behind it that are not 0, the lowest first; and a bit for each of them.
func printSparse(d []byte, v, size int) (out []byte, set byte) {
	for k := range size {
		if c := byte(v >> (8 * k)); c != 0 {
			d = append(d, c)
			set |= 1 << k
		}
	}
	return d, set
}

// copied answers the steps, and copies behind them that make n bytes.
func (l steps) copied(from, n int) steps {
	for n > 0 {
		size := min(n, maxCopy)
		l = append(l, Op{Copy: true, From: from, N: size})
		from, n = from+size, n-size
	}
	return l
}

// put answers the steps, and b behind them as it is; they keep pieces of b.
func (l steps) put(b []byte) steps {
	for len(b) > 0 {
		size := min(len(b), maxData)
		l = append(l, Op{Data: b[:size]})
		b = b[size:]
	}
	return l
}
