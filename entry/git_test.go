package entry_test

import (
	"encoding/hex"
	"testing"

	"trove/api"
	"trove/delta"
	"trove/entry"
	"trove/object"
	"trove/oid"
)

// Packs that git made (git pack-objects, with --delta-base-offset and without): they begin alike.
const (
	gitFront = "5041434b0000000200000009950a789c7d8abd0a82310c00f73e45769734fd490b22fa286912d0e1f39352c1c75771f7861b8e5bd31d527543f2ee32" +
		"5a1633afcd5be622d544a5a72232a8770e0f997e5fe036982831c73a9a73625194d28c32528c8aa88ce895823cd7759f7081a39c5f27889ffc030e5f" +
		"07ddb7edb696ff5982a6f00649fd2c09950a789c7dcab10a02310c80e1bd4fd1dda54d7a490b22fa28499aa2c37972f4c0c717c1d97ff8a67feeeed1" +
		"53aa951be902da959356a625b942cfa34061c506826ce125bb3f671c4c4452a569761c19058072936a850dba60439324ad0739e67ddbe32d9ee5fabe" +
		"c4cce9573c7d0db6adeb634effb30483f001e2802bb19507789c2b294a4d55b04833323633374e3537354c4e49313033354f4a354d4e4d4a33b234b6" +
		"4c4d4b4b354d354f4d3149e44a2c2dc9c82f527054b04974a8b0533034378002056d10c9959c9f9b9b5952928a470957b2211700b9f51f16ad01789c" +
		"33343030333151486398723d75c966cbe7ced22ffbda664c5cdd7621d6881b00a0c70c1cb20b789c0dcec10d43310cc3d03ba7e808916c39c9403d14" +
		"28baffb17f013e0a533461d81c2e5a48c8a850a3a0411b1d74f1c2c2c6851b070fdef8e04b2d4ad4932caaa950436dea50975eb468d38fd874e8a137" +
		"7de84b16113129f20c850cd9e490cb2cbe9fdffb55fc01e5bf1ad8ad01789c333430303331514863b877adcc2527c457b7747ed2b4296b9f65febd1f" +
		"52020099270c9e"
	gitByPlace = "698017789cdbc4b88971c20626232e00113b02e5ad01789c33343030333151486338e5c6b4d83b5eecd535c55706e7f53e189e12f29607008aff0a8a" +
		"698053789cdbc4b88971c20626432e00113902e473039fb4fc4556844efcc51a6b9a66035366b78a"
	gitByName = "7994d765a4b339e7431be98e869891ab86d05d320b789cdbc4b88971c20626232e00113b02e5ad01789c33343030333151486338e5c6b4d83b5eecd5" +
		"35c55706e7f53e189e12f29607008aff0a8a7994d765a4b339e7431be98e869891ab86d05d320b789cdbc4b88971c20626432e00113902e487e85c36" +
		"c71193968b979e44e6688554b84d7cd6"
)

// gitEntry: what git itself says of an entry (git verify-pack -v, git show-index). Of a delta the name is that of what it makes.
type gitEntry struct {
	name              string
	kind, size, n, at int
	crc               uint32
	back              int
}

func gitFrontEntries() []gitEntry {
	return []gitEntry{
		{"6eea4b6622cc11f0c30ec4f17f8f709e622fc147", api.Commit, 165, 124, 12, 0x0c01683b, 0},
		{"edb72237716b8e737ac0a58d240211c00c700e62", api.Commit, 165, 126, 136, 0x6cd0afff, 0},
		{"f7666a8a9b1e3f13a22619a8c47c2da393ca0a9d", api.Commit, 117, 94, 262, 0x71165433, 0},
		{"36ed02e9eab84adde68e8475a6daca935aab2997", api.Tree, 29, 40, 356, 0x016cf0dc, 0},
		{gitBase, api.Blob, 178, 111, 396, 0x26817fa1, 0},
		{"e0088796b52bdb70b87650eb2d1f4247b392a37c", api.Tree, 29, 40, 507, 0x4e4a6fb0, 0},
	}
}

const gitBase = "94d765a4b339e7431be98e869891ab86d05d320b"

func TestP1402GitByPlace(t *testing.T) {
	checkGit(t, gitFront+gitByPlace, append(gitFrontEntries(),
		gitEntry{"ded676446c544d2d759f629694ade669fddf5474", entry.Ofs, 9, 20, 547, 0x3984aa11, 547 - 396},
		gitEntry{"8f23673e751cdd0657be5cebf2939effe5e7ed4a", api.Tree, 29, 40, 567, 0xcd92c645, 0},
		gitEntry{"ca4602a34b5f16ead621ea30cf2ef031ca124b1f", entry.Ofs, 9, 20, 607, 0x7794a56a, 607 - 396},
	))
}

func TestP1402GitByName(t *testing.T) {
	checkGit(t, gitFront+gitByName, append(gitFrontEntries(),
		gitEntry{"ded676446c544d2d759f629694ade669fddf5474", entry.Ref, 9, 38, 547, 0xcb23de08, 0},
		gitEntry{"8f23673e751cdd0657be5cebf2939effe5e7ed4a", api.Tree, 29, 40, 585, 0xcd92c645, 0},
		gitEntry{"ca4602a34b5f16ead621ea30cf2ef031ca124b1f", entry.Ref, 9, 38, 625, 0x34167615, 0},
	))
}

func checkGit(t *testing.T, pack string, l []gitEntry) {
	t.Helper()
	b, err := hex.DecodeString(pack)
	if err != nil {
		t.Fatal(err)
	}
	base, _ := entry.Read(b, 396)
	for _, x := range l {
		e, err := entry.Read(b, x.at)
		if err != api.OK || e.Kind != x.kind || e.Size != x.size || e.Len != x.n || e.At != x.at || e.Crc != x.crc || e.Back != x.back {
			t.Errorf("%s: %+v, %v", x.name, e, err)
		}
		if kind, size, _, err := entry.Head(b[x.at:]); kind != x.kind || size != x.size || err != api.OK {
			t.Errorf("%s: %d, %d, %v", x.name, kind, size, err)
		}
		if told := e.Base != (api.ID{}); told != (x.kind == entry.Ref) || told && oid.Hex(e.Base) != gitBase {
			t.Errorf("%s: %x", x.name, e.Base)
		}
		kind, data := e.Kind, e.Data
		if kind == entry.Ofs || kind == entry.Ref {
			kind = base.Kind
			data, err = delta.Apply(base.Data, e.Data, api.MaxObject)
		}
		if name := oid.Hex(object.ID(kind, data)); name != x.name || err != api.OK {
			t.Errorf("%s: %s, %v", x.name, name, err)
		}
		checkRead(t, b, x.at)
		checkWrite(t, e, 9)
	}
	if end := l[len(l)-1]; end.at+end.n != len(b)-20 {
		t.Errorf("the last entry ends at %d of %d bytes", end.at+end.n, len(b))
	}
}
