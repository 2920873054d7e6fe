package sha_test

import (
	"bytes"
	"crypto/sha1"
	"encoding/hex"
	"math/rand"
	"slices"
	"strings"
	"testing"

	"trove/api"
	"trove/sha"
)

// want: what the package's answers are held against.
func want(b []byte) api.ID { return sha1.Sum(b) }

func someBytes(seed int64, n int) []byte {
	b := make([]byte, n)
	rand.New(rand.NewSource(seed)).Read(b)
	return b
}

func TestP301KnownSums(t *testing.T) {
	for _, c := range []struct{ of, sum string }{
		{"", "da39a3ee5e6b4b0d3255bfef95601890afd80709"},
		{"a", "86f7e437faa5a7fce15d1ddcb9eaeaea377667b8"},
		{"abc", "a9993e364706816aba3e25717850c26c9cd0d89d"},
		{"message digest", "c12252ceda8be8994d5fa0290a47231c1d16aae3"},
		{"abcdefghijklmnopqrstuvwxyz", "32d10c7b8cf96570ca04ce37f2a19d84240d3a89"},
		{"abcdbcdecdefdefgefghfghighijhijkijkljklmklmnlmnomnopnopq", "84983e441c3bd26ebaae4aa1f95129e5e54670f1"},
		{"abcdefghbcdefghicdefghijdefghijkefghijklfghijklmghijklmnhijklmnoijklmnopjklmnopqklmnopqrlmnopqrsmnopqrstnopqrstu", "a49b2446a02c645bf419f995b67091253a04a259"},
		{strings.Repeat("0123456701234567012345670123456701234567012345670123456701234567", 10), "dea356a2cddd90c7a7ecedc5ebb563934f460452"},
		{strings.Repeat("a", 1000000), "34aa973cd4c4daa4f61eeb2bdbad27316534016f"},
		{"blob 0\x00", "e69de29bb2d1d6434b8b29ae775ad8c2e48c5391"},
		{"tree 0\x00", "4b825dc642cb6eb9a060e54bf8d69288fbee4904"},
	} {
		id := sha.Sum([]byte(c.of))
		if got := hex.EncodeToString(id[:]); got != c.sum {
			t.Errorf("%.40q (%d bytes): %s, not %s", c.of, len(c.of), got, c.sum)
		}
	}
}

// The last block's ending begins anew, or in a block of its own, at 55, 56, 63, 64 bytes and at their like.
func TestP301EveryLength(t *testing.T) {
	for _, fill := range []byte{0, 0x80, 0xFF} {
		for n := range 300 {
			b := bytes.Repeat([]byte{fill}, n)
			if sha.Sum(b) != want(b) {
				t.Errorf("%d bytes %#x: %x, not %x", n, fill, sha.Sum(b), want(b))
			}
		}
	}
	b := someBytes(301, 2200)
	for n := range b {
		if sha.Sum(b[:n]) != want(b[:n]) {
			t.Errorf("%d bytes: %x, not %x", n, sha.Sum(b[:n]), want(b[:n]))
		}
	}
}

func TestP301EveryBit(t *testing.T) {
	b := someBytes(3010, 130)
	for k := range 8 * len(b) {
		b[k/8] ^= 1 << (k % 8)
		if sha.Sum(b) != want(b) {
			t.Errorf("bit %d turned: %x, not %x", k, sha.Sum(b), want(b))
		}
		b[k/8] ^= 1 << (k % 8)
	}
}

// The number of bits needs its third, fourth and fifth byte.
func TestP301LongInputs(t *testing.T) {
	for _, n := range []int{1<<13 - 1, 1 << 13, 1<<21 - 1, 1 << 21, 1<<22 + 57} {
		b := someBytes(int64(n), n)
		if sha.Sum(b) != want(b) {
			t.Errorf("%d bytes: %x, not %x", n, sha.Sum(b), want(b))
		}
	}
	if testing.Short() {
		return
	}
	h, model := sha.New(), sha1.New()
	b := someBytes(29, 1<<20)
	for range 1<<9 + 1 {
		h.Write(b)
		model.Write(b)
	}
	if h.Len() != 1<<29+1<<20 || h.Sum() != api.ID(model.Sum(nil)) {
		t.Errorf("%d bytes: %x, not %x", h.Len(), h.Sum(), model.Sum(nil))
	}
}

func TestP302NothingWritten(t *testing.T) {
	h := sha.New()
	if h.Len() != 0 || h.Sum() != want(nil) {
		t.Errorf("new: %d bytes, %x", h.Len(), h.Sum())
	}
	h.Write(nil)
	h.Write([]byte{})
	if h.Len() != 0 || h.Sum() != want(nil) || sha.Sum(nil) != sha.Sum([]byte{}) {
		t.Errorf("empty lists written: %d bytes, %x", h.Len(), h.Sum())
	}
}

func TestP302TwoPieces(t *testing.T) {
	b := someBytes(302, 200)
	for _, n := range []int{1, 55, 56, 63, 64, 65, 119, 120, 127, 128, 129, 192, 200} {
		for cut := range n + 1 {
			h := sha.New()
			h.Write(b[:cut])
			h.Write(b[cut:n])
			if h.Len() != n || h.Sum() != want(b[:n]) {
				t.Errorf("%d and %d bytes: %d, %x", cut, n-cut, h.Len(), h.Sum())
			}
		}
	}
}

func TestP302SumAndOn(t *testing.T) {
	b := someBytes(3020, 400)
	h := sha.New()
	for i := range b {
		if h.Sum() != want(b[:i]) || h.Sum() != want(b[:i]) || h.Len() != i {
			t.Fatalf("behind %d single bytes: %d, %x", i, h.Len(), h.Sum())
		}
		h.Write(b[i : i+1])
	}
}

func TestP302TwinsApart(t *testing.T) {
	b := someBytes(3021, 400)
	for n := range 200 {
		h := sha.New()
		h.Write(b[:n])
		twin := h.Twin()
		if twin == h || twin.Len() != n || twin.Sum() != want(b[:n]) {
			t.Fatalf("a twin of %d bytes: %d, %x", n, twin.Len(), twin.Sum())
		}
		other := slices.Concat(b[:n], b[300:])
		h.Write(b[n:])
		twin.Write(b[300:])
		if h.Len() != len(b) || h.Sum() != want(b) {
			t.Errorf("one with a twin at %d: %d, %x", n, h.Len(), h.Sum())
		}
		if twin.Len() != len(other) || twin.Sum() != want(other) {
			t.Errorf("a twin from %d on: %d, %x", n, twin.Len(), twin.Sum())
		}
	}
}

// Several hashes with their twins, and the bytes that each was given.
func TestP302AnyCalls(t *testing.T) {
	for seed := range int64(60) {
		r := rand.New(rand.NewSource(seed))
		all := []*sha.Hash{sha.New()}
		put := [][]byte{nil}
		for step := range 60 {
			k := r.Intn(len(all))
			if r.Intn(5) == 0 {
				all = append(all, all[k].Twin())
				put = append(put, bytes.Clone(put[k]))
			} else {
				b := someBytes(seed*1000+int64(step), r.Intn(150))
				all[k].Write(b)
				put[k] = append(put[k], b...)
			}
			k = r.Intn(len(all))
			if all[k].Len() != len(put[k]) || all[k].Sum() != want(put[k]) {
				t.Fatalf("seed %d, step %d: %d, %x", seed, step, all[k].Len(), all[k].Sum())
			}
		}
	}
}

func TestP2NothingKeptOrChanged(t *testing.T) {
	for _, n := range []int{0, 1, 20, 55, 56, 63, 64, 65, 128, 150} {
		room := someBytes(int64(n), n+80)
		was := bytes.Clone(room)
		h := sha.New()
		h.Write(room[:n])
		h.Sum()
		sum := sha.Sum(room[:n])
		if !bytes.Equal(room, was) {
			t.Fatalf("%d bytes, or their spare room, were changed", n)
		}
		clear(room)
		if h.Sum() != want(was[:n]) || sum != want(was[:n]) {
			t.Errorf("%d bytes were kept, not copied", n)
		}
	}
}
