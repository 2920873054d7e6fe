package pack

import (
	"trove/api"
	"trove/sha"
)

// digest sums bytes up as they come, by the methods of a hash that nobody else has.
type digest struct {
	add func(b []byte)
	sum func() api.ID
}

func newDigest() digest {
	h := sha.New()
	return digest{add: h.Write, sum: h.Sum}
}

func sumOf(b []byte) api.ID {
	d := newDigest()
	d.add(b)
	return d.sum()
}
