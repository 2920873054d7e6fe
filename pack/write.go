package pack

import (
	"trove/api"
	"trove/bin"
	"trove/entry"
)

// Write answers a pack of l, in order, and where each of its entries begins. The Back of an Ofs counts entries.
func Write(l []entry.Entry, effort int) ([]byte, []int, api.Errno) {
	if err := checked(l); err != api.OK {
		return nil, nil, err
	}
	w := newWriter(len(l))
	for _, e := range l {
		if err := w.putEntry(e, effort); err != api.OK {
			return nil, nil, err
		}
	}
	return w.done(), w.places, api.OK
}

// checked asks all of l ahead of any writing, since what may not be goes ahead of what is too long.
func checked(l []entry.Entry) api.Errno {
	for place, e := range l {
		if e.Kind == entry.Ofs && e.Back > place || len(e.Data) > api.MaxObject {
			return api.ErrArg
		}
		e.Data = nil // need not be packed to tell whether the rest may be
		if _, err := entry.Write(e, 0); err != api.OK {
			return err
		}
	}
	if len(l) > api.MaxCount {
		return api.ErrLong
	}
	return api.OK
}

// writer puts a pack together, and sums it up meanwhile.
type writer struct {
	b      []byte
	places []int // where the entries so far begin
	digest digest
}

func newWriter(count int) *writer {
	w := &writer{digest: newDigest()}
	w.put(bin.Put32([]byte(mark), count))
	return w
}

func (w *writer) put(b []byte) {
	w.b = append(w.b, b...)
	w.digest.add(b)
}

// putEntry puts e, whose base is Back entries ahead, as one whose base is so many bytes ahead.
func (w *writer) putEntry(e entry.Entry, effort int) api.Errno {
	at := len(w.b)
	if e.Kind == entry.Ofs {
		e.Back = at - w.places[len(w.places)-e.Back]
	}
	b, err := entry.Write(e, effort)
	if err != api.OK {
		return err
	}
	if at+len(b)+sumSize > api.MaxPack {
		return api.ErrLong
	}
	w.places = append(w.places, at)
	w.put(b)
	return api.OK
}

// done answers the pack, its sum at its end.
func (w *writer) done() []byte {
	id := w.digest.sum()
	return append(w.b, id[:]...)
}
