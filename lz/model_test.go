package lz_test

import (
	"bytes"
	"math/big"
	"slices"
	"testing"

	"trove/api"
	"trove/lz"
)

func lit(c byte) lz.Token { return lz.Token{Lit: c} }

func again(n, dist int) lz.Token { return lz.Token{Len: n, Dist: dist} }

// text: a literal for each byte.
func text(s string) []lz.Token {
	var l []lz.Token
	for k := range len(s) {
		l = append(l, lit(s[k]))
	}
	return l
}

// list: several lists in one row.
func list(l ...[]lz.Token) []lz.Token { return slices.Concat(l...) }

func copies(t ...lz.Token) []lz.Token { return t }

// slowSize adds up numbers that never wrap round.
func slowSize(l []lz.Token) *big.Int {
	sum := big.NewInt(0)
	for _, t := range l {
		n := int64(0)
		if t.Len == 0 {
			n = 1
		} else if t.Len > 0 && t.Len < 259 {
			n = int64(t.Len)
		}
		sum.Add(sum, big.NewInt(n))
	}
	return sum
}

// slowExpand makes the bytes first, and asks then: a copy's bytes are taken by their places from the first byte on.
func slowExpand(l []lz.Token) (out []byte, err api.Errno) {
	for _, t := range l {
		switch {
		case t.Len == 0 && t.Dist == 0:
			out = append(out, t.Lit)
		case t.Lit != 0, t.Len < 3, t.Len > 258, t.Dist < 1, t.Dist > 32768, len(out)-t.Dist < 0:
			return nil, api.ErrForm
		default:
			from := len(out) - t.Dist
			for k := range t.Len {
				out = append(out, out[from+k%t.Dist])
			}
		}
	}
	return out, api.OK
}

// checkTokens holds Check, Size and Expand against the model.
func checkTokens(t *testing.T, l []lz.Token, mosts ...int) {
	t.Helper()
	made, formErr := slowExpand(l)
	if err := lz.Check(l); err != formErr {
		t.Fatalf("Check(%v): %v, not %v", l, err, formErr)
	}
	wantSize := api.MaxFile + 1
	if n := slowSize(l); n.Cmp(big.NewInt(int64(wantSize))) < 0 {
		wantSize = int(n.Int64())
	}
	if n := lz.Size(l); n != wantSize {
		t.Fatalf("Size(%v): %d, not %d", l, n, wantSize)
	}
	for _, most := range mosts {
		want, wantErr := made, formErr
		if wantErr == api.OK && len(made) > most {
			want, wantErr = nil, api.ErrLong
		}
		if out, err := lz.Expand(l, most); err != wantErr || !bytes.Equal(out, want) {
			t.Fatalf("Expand(%v, %d): %d bytes, %v, not %d, %v", l, most, len(out), err, len(want), wantErr)
		}
	}
}

// checkFind says what P801 promises of the tokens of any bytes, and answers them.
func checkFind(t *testing.T, b []byte, effort int) []lz.Token {
	t.Helper()
	l := lz.Find(b, effort)
	if out, err := slowExpand(l); err != api.OK || !bytes.Equal(out, b) {
		t.Fatalf("Find of %d bytes, %d: %v, and %d bytes that are not the same", len(b), effort, err, len(out))
	}
	if out, err := lz.Expand(l, len(b)); err != api.OK || !bytes.Equal(out, b) {
		t.Fatalf("Expand of Find of %d bytes, %d: %d bytes, %v", len(b), effort, len(out), err)
	}
	if effort <= 0 && !slices.Equal(l, text(string(b))) {
		t.Fatalf("Find of %d bytes, %d: not literals alone", len(b), effort)
	}
	return l
}

// checkRow says what it promises besides of a row again and again.
func checkRow(t *testing.T, row []byte, n, effort int) {
	t.Helper()
	b := bytes.Repeat(row, n/len(row)+1)[:n]
	if l := checkFind(t, b, effort); 200*(len(l)-110) > n {
		t.Errorf("Find of %d bytes, %d: %d tokens; the row: %x", n, effort, len(l), row)
	}
}
