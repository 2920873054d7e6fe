package midx_test

import (
	"bytes"
	"encoding/hex"
	"strconv"
	"strings"
	"testing"

	"trove/api"
	"trove/idx"
	"trove/midx"
)

// Four packs that git made (git pack-objects), as git tells of their indexes (git show-index): where each object is, and its name. Some objects are in two or three of them.
const (
	gitFirst  = "147aafed5ff62435482577db265a751107fca585"
	gitSecond = "64d765477c79d5c858dec74985fc1f06dd6d1517"
	gitThird  = "a9d415ce8dc7f1af952483061458b5995491dfad"
	gitFourth = "f217809e98cc4a6ec8bfb6032aebc46df742a5f2"

	gitFirstRows = `236 004ac6b245d77accec225ea9de449b8ae7fe3c56
585 112cb75482b15d846112a7f0cafe557d5967e364
603 316ac39ce7cb0aeda119d03e7bef7cb75e738295
362 3ed4c3672eb8e75f46a6e7bb8109a296fe6932c5
567 55be5a2c1f588d1b2fd0b72a6f5c967c01bcaf6c
12 9f78d8f2b613c60085c8db05a68c85897ae65277
621 bcd246899eb015f6ef3831d498ae5f50fb4911e5
137 de9967ff6f3d4c5c3f5cd0da3a32af9252ba51ed
530 fd21839752b3062dad0ea523ce980aec27b8d3cc`
	gitSecondRows = `305 112cb75482b15d846112a7f0cafe557d5967e364
137 3ed4c3672eb8e75f46a6e7bb8109a296fe6932c5
12 9f78d8f2b613c60085c8db05a68c85897ae65277
323 bcd246899eb015f6ef3831d498ae5f50fb4911e5`
	gitThirdRows = `12 4d56ca10ea48a428a7e258f966b41334839d9d41
174 6df9b5937a2fd89acdc8f86b45b023f8b1dddb4e
192 9df0e2613626df8e1a5aa9ed2043beaa467034a2
106 d0e74b34777eca3a5b91d30f85a9ab5e6b54b750`
	gitFourthRows = `12 004ac6b245d77accec225ea9de449b8ae7fe3c56
404 316ac39ce7cb0aeda119d03e7bef7cb75e738295
138 4d56ca10ea48a428a7e258f966b41334839d9d41
368 55be5a2c1f588d1b2fd0b72a6f5c967c01bcaf6c
350 6df9b5937a2fd89acdc8f86b45b023f8b1dddb4e
386 9df0e2613626df8e1a5aa9ed2043beaa467034a2
422 d0e74b34777eca3a5b91d30f85a9ab5e6b54b750
232 fd21839752b3062dad0ea523ce980aec27b8d3cc`
)

// The last twenty bytes of the indexes that git made of these (git multi-pack-index write), the pack with the least name being the youngest, and so on: git takes what several have from the youngest one. A sum, that is, of all their bytes.
const (
	sumAll   = "4b417d67bfbb8b269721a986d347fd7f6c95245d"
	sumThree = "45ee8ac2d03f46b640ce557366d9c1f6843acb00" // without the second one
	sumTwo   = "483da754eb0ce2dfb3c38b2a1cec8f55bacea4bb" // of the first one and the fourth
	sumYoung = "7c6e9d2f1bd9fc3868130820fedcd52c76c21de3" // of these two, the fourth being the youngest
	sumOne   = "6456a7a2ab7056c5752762d2c6b9e0bbf887c0af" // of the third one
)

func fromHex(t testing.TB, s string) []byte {
	t.Helper()
	b, err := hex.DecodeString(s)
	if err != nil {
		t.Fatal(err)
	}
	return b
}

// gitPack answers a pack of what git tells.
func gitPack(t testing.TB, name, rows string) midx.Pack {
	t.Helper()
	p := midx.Pack{Name: "pack-" + name + ".idx"}
	for line := range strings.Lines(rows) {
		words := strings.Fields(line)
		at, err := strconv.Atoi(words[0])
		if err != nil {
			t.Fatal(err)
		}
		p.Rows = append(p.Rows, idx.Row{ID: api.ID(fromHex(t, words[1])), At: at})
	}
	return p
}

// checkGit demands that Build makes just the bytes that git made.
func checkGit(t *testing.T, sum string, size int, packs ...midx.Pack) []byte {
	t.Helper()
	b, err := checkBuild(t, packs)
	if err != api.OK || len(b) != size || !bytes.HasSuffix(b, fromHex(t, sum)) || !bytes.Equal(resealed(b), b) {
		t.Errorf("%d bytes, %v: not those of %s", len(b), err, sum)
	}
	return b
}

// TestP1801Git: Build makes just git's indexes.
func TestP1801Git(t *testing.T) {
	first, second := gitPack(t, gitFirst, gitFirstRows), gitPack(t, gitSecond, gitSecondRows)
	third, fourth := gitPack(t, gitThird, gitThirdRows), gitPack(t, gitFourth, gitFourthRows)
	checkGit(t, sumThree, 1632, third, fourth, first)
	checkGit(t, sumTwo, 1580, fourth, first)
	checkGit(t, sumOne, 1280, third)
	x, err := midx.Open(checkGit(t, sumAll, 1680, fourth, second, first, third))
	if err != api.OK || x.Len() != 13 || len(x.Packs()) != 4 || x.Packs()[1] != second.Name {
		t.Fatal(err)
	}
	for name, want := range map[string]midx.Place{
		"112cb75482b15d846112a7f0cafe557d5967e364": {Pack: first.Name, At: 585}, "004ac6b245d77accec225ea9de449b8ae7fe3c56": {Pack: first.Name, At: 236},
		"4d56ca10ea48a428a7e258f966b41334839d9d41": {Pack: third.Name, At: 12}, "fd21839752b3062dad0ea523ce980aec27b8d3cc": {Pack: first.Name, At: 530},
	} {
		if p, is := x.Find(api.ID(fromHex(t, name))); !is || p != want {
			t.Errorf("%s: %+v, %v", name, p, is)
		}
	}
}

// TestP1801GitYoung: where git takes what two packs have from the one with the greater name, that is the index of two of which the other one is without these objects.
func TestP1801GitYoung(t *testing.T) {
	first, fourth := gitPack(t, gitFirst, gitFirstRows), gitPack(t, gitFourth, gitFourthRows)
	var left []idx.Row
	for _, r := range first.Rows {
		if !strings.Contains(gitFourthRows, hex.EncodeToString(r.ID[:])) {
			left = append(left, r)
		}
	}
	first.Rows = left
	x, err := midx.Open(checkGit(t, sumYoung, 1580, first, fourth))
	if err != api.OK || len(left) != 5 {
		t.Fatal(err)
	}
	if p, is := x.Find(api.ID(fromHex(t, "004ac6b245d77accec225ea9de449b8ae7fe3c56"))); !is || p != (midx.Place{Pack: fourth.Name, At: 12}) {
		t.Errorf("%+v, %v", p, is)
	}
}
