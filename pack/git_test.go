package pack_test

import (
	"encoding/hex"
	"testing"

	"trove/api"
	"trove/delta"
	"trove/entry"
	"trove/object"
	"trove/oid"
	"trove/pack"
)

// Packs that git made (git pack-objects): two that begin alike, whose deltas have their bases by place and by name; one whose delta has its base elsewhere (--thin); one of nothing.
const (
	gitFront = "5041434b000000020000000c980a789c7d8e310ec2300c00f7bc223b8bebd84e2321044f496247652845952bf17c4062e6869b6e38dfcd624f066830" +
		"1a0189a1b4015d2915ad2253b3d990b96182f0acbb3d3ca230b36602a136f75115b0a46c29a9646011ce550b11867af8b2edf116cff5fabac429c38f" +
		"78fa3af46d5defeef62709be7c16c31b55952c9fc806789c2d8acb0a80201000ef7ec5debbec4af98088fa14571729102324eaef43680e3397a97c48" +
		"6c901291474633698c1a253871e498c5b237e8184713fcc846b5f71488b594bda91632dcd493e5820de6b03e0b90c51f18ba551fd4073fda1cd5960a" +
		"789c7dcabd0a42310c40e1bd4f91dd25fd6f40441f258d093a5c2ba5177d7c119c3dc3379d3555a1c7225402c720943ad5129a54cc6adc9a592ee423" +
		"27aeea9e3cf5b1c0043b4625edc4d14b6d3d4949815a4e0df18a56ad24f4ec785fb731e102473ebf4fe02bfe82c3572763dbee6be99fc5add7701f1e" +
		"922c5b9607789c2b294a4d55b034b54c34b2344b494c4b32354e4d33334e313549354d4c324f4d324f49324c4db6484c4d354f49e34a2c2dc9c82f52" +
		"7054b04974a8b0533034378002056d10c9959c9f9b9b5952928a4709577e5e2a17000d67204ea903789c3334303033315148643012d9b9235c2254be" +
		"7b7bc1ed2939f7953c2a9f5b99180081420ac3814fc7bd2f08d4be9bdf745f34d2a85130bdd16611004aaa163aad01789c33343030333151c86070dd" +
		"d9bccf6cbb0d7bc79d397bb6e7ec6ef853bd211c0099170cbfa903789c333430303331514864f820ea3c65d1adc42d72426727af72fc18b2f9f4d73f" +
		"260640a090c270e0d371ef0b02b5efe637dd178d346a144c6fb4590400a87418cca903789c333430303331514864b8ddb874c38a98ad8fe716c60ad4" +
		"a6ecf9cafe604ab689011028a4301cf874dcfb8240edbbf94df745238d1a05d31b6d160100ac3b1870b43e789c85d3496e1c310c05d0bd4f51170820" +
		"8a1487dc8683641be874037127c8f1a36451bdac1d574fe2f06f9ff779c0f158871fcff9e7793c3ffc797c7e1db7c7fdfd98f7c7aff78fefc71ccb89" +
		"560f848415636070eb3005b955931a65b0d698c7f1ededf64fec57a21069a9983aa136e05e148397058d3efbdad5ec34c54f11af44c78a91806b5973" +
		"6463eca2c98e36694eccbeddfd189f225d89961c6d88f7b032766a2c2e641b0b8c06430bade582531c57e29e130965c36621e9cd1cb497aa2ed9a6b8" +
		"ae09c83d4f91afc4ccd50542149b6eca410c74f4f099bb46591993c2da297ecddff37ea5eec6989695972d6ec8980ac1aad8a96c04cd94d4867aaa7a" +
		"25eeb6c6fe27813b905742cbb1304da508b3f5d4358aec25da9518ec518365b9d86eb281713543df5bda1341864a4ed738456857240161a123818ac0" +
		"a0e269a30310d3845ab0771e42512ff2323955027b500b89710d803985dabed48c54011bd8f6fe0d5e1b87cbe8788d9d11aedcb75950da472cb25a62" +
		"c5613ac39578c6ff30fe78fc9c6f7f01de042728"
	gitByPlace = "67820f789c7bc27e9f7dc37d66000eb50364e2018221789c7bc27e9b7dc3474646f3c90ecc8a9bc5994e300200443c063433789ccbc8e40200021700" +
		"dc615e51f8fa8d31fa4a66cc5463e746da46154f6a"
	gitByName = "773214b9b85718551f8bb770db946cdf224879e73a789c7bc27e9f7dc37d66000eb50364f2013214b9b85718551f8bb770db946cdf224879e73a789c" +
		"7bc27e9b7dc3474646f3c90ecc8a9bc5994e300200443c063433789ccbc8e40200021700dc93bdc3ab72952929b81506a604f1690e9345d513"
	gitThin = "5041434b0000000200000004980a789c7d8e310ec2300c00f7bc223b8bebd84e2321044f496247652845952bf17c4062e6869b6e38dfcd624f066830" +
		"1a0189a1b4015d2915ad2253b3d990b96182f0acbb3d3ca230b36602a136f75115b0a46c29a9646011ce550b11867af8b2edf116cff5fabac429c38f" +
		"78fa3af46d5defeef62709be7c16c31b55952c9fc806789c2d8acb0a80201000ef7ec5debbec4af98088fa14571729102324eaef43680e3397a97c48" +
		"6c901291474633698c1a253871e498c5b237e8184713fcc846b5f71488b594bda91632dcd493e5820de6b03e0b90c51f18ba551fd4073fda1cd5a903" +
		"789c3334303033315148643012d9b9235c2254be7b7bc1ed2939f7953c2a9f5b99180081420ac3814fc7bd2f08d4be9bdf745f34d2a85130bdd16611" +
		"004aaa163a7df0154394a2da61b41e12cd93aa41f154b3cbf5fc789cbbcffe847dc37d66d6dcfca2542e002928052695c82a6cd348c652ea4eea9aea" +
		"06ac37b8c3dc3d"
	gitNone = "5041434b0000000200000000029d08823bd8a8eab510ad6ac75c823cfd3ed31e"
)

// gitEntry: what git itself says of an entry (git verify-pack -v, git show-index). Of a delta the name is that of what it makes.
type gitEntry struct {
	name              string
	kind, size, n, at int
	crc               uint32
	back              int
}

const (
	gitBase = "3214b9b85718551f8bb770db946cdf224879e73a"
	baseAt  = 701
)

func gitFrontEntries() []gitEntry {
	return []gitEntry{
		{"dd1190b06520c20ea8e818bbe7b9608b046a94b6", api.Commit, 168, 128, 12, 0xced52ee5, 0},
		{"d3b239c42d7b0aa140a5c3b9b3acd6d1a830b543", api.Tag, 104, 98, 140, 0xca09a8ba, 0},
		{"26555d74064b8cfad02937e33d67056657ad9442", api.Commit, 166, 125, 238, 0x3f1a6470, 0},
		{"fc0b03e9eb9a31c78b4c6429854800d0f7f6401a", api.Commit, 118, 95, 363, 0xd1352457, 0},
		{"c3e02e0fb4046e26bf0cd439da661be8e255b230", api.Tree, 57, 67, 458, 0xac41ccc1, 0},
		{"c0f2c74bd0107dee9f82df155932811167813ca2", api.Tree, 29, 40, 525, 0x975c2227, 0},
		{"b36c962a32c94b97628c705efa88ff56913a4a7e", api.Tree, 57, 68, 565, 0x06ff94c5, 0},
		{"959a296dafb53ef63d54e5ab7eb7db1ec8aee7df", api.Tree, 57, 68, 633, 0xa1c3ebfb, 0},
		{gitBase, api.Blob, 996, 399, baseAt, 0xcf9864bc, 0},
	}
}

func fromHex(t testing.TB, s string) []byte {
	t.Helper()
	b, err := hex.DecodeString(s)
	if err != nil {
		t.Fatal(err)
	}
	return b
}

func TestP1501GitByPlace(t *testing.T) {
	checkGit(t, gitFront+gitByPlace, "pack-615e51f8fa8d31fa4a66cc5463e746da46154f6a", append(gitFrontEntries(),
		gitEntry{"f0154394a2da61b41e12cd93aa41f154b3cbf5fc", entry.Ofs, 7, 18, 1100, 0x1e7cce6d, 1100 - baseAt},
		gitEntry{"db81a5b0a85cb5e39d715d107d64bcf507e0946b", entry.Ofs, 18, 31, 1118, 0x01f15e45, 1118 - baseAt},
		gitEntry{"45b983be36b73c0788dc9cbcb76cbb80fc7bb057", api.Blob, 3, 12, 1149, 0x92e7f8d3, 0},
	))
}

func TestP1501GitByName(t *testing.T) {
	checkGit(t, gitFront+gitByName, "pack-93bdc3ab72952929b81506a604f1690e9345d513", append(gitFrontEntries(),
		gitEntry{"f0154394a2da61b41e12cd93aa41f154b3cbf5fc", entry.Ref, 7, 36, 1100, 0x0315214b, 0},
		gitEntry{"db81a5b0a85cb5e39d715d107d64bcf507e0946b", entry.Ref, 18, 49, 1136, 0x4f264484, 0},
		gitEntry{"45b983be36b73c0788dc9cbcb76cbb80fc7bb057", api.Blob, 3, 12, 1185, 0x92e7f8d3, 0},
	))
}

// checkGit holds Read and Name of a pack of git's against what git says of it, and has Write make one of the same entries.
func checkGit(t *testing.T, text, name string, l []gitEntry) {
	t.Helper()
	b := fromHex(t, text)
	got, err := pack.Read(b)
	if err != api.OK || len(got) != len(l) {
		t.Fatalf("%s: %d entries, %v", name, len(got), err)
	}
	for i, x := range l {
		e := got[i]
		if e.Kind != x.kind || e.Size != x.size || e.Len != x.n || e.At != x.at || e.Crc != x.crc || e.Back != x.back {
			t.Errorf("%s: %+v", x.name, e)
		}
		if told := e.Base != (api.ID{}); told != (x.kind == entry.Ref) || told && oid.Hex(e.Base) != gitBase {
			t.Errorf("%s: %x", x.name, e.Base)
		}
		kind, data := e.Kind, e.Data
		if kind == entry.Ofs || kind == entry.Ref {
			kind = api.Blob
			data, err = delta.Apply(got[8].Data, e.Data, api.MaxObject)
		}
		if id := oid.Hex(object.ID(kind, data)); id != x.name || err != api.OK {
			t.Errorf("%s: %s, %v", x.name, id, err)
		}
	}
	if s, err := pack.Name(b); s != name || err != api.OK {
		t.Errorf("%s: %s, %v", name, s, err)
	}
	checkRead(t, b)
	for _, effort := range []int{0, 1, 9} {
		checkWrite(t, inEntries(got), effort)
	}
}

func TestP1501GitThin(t *testing.T) {
	b := fromHex(t, gitThin)
	checkRead(t, b)
	l, err := pack.Read(b)
	if err != api.OK || len(l) != 4 || l[0].Kind != api.Commit || l[1].Kind != api.Tag || l[2].Kind != api.Tree || l[3].Kind != entry.Ref {
		t.Fatalf("%+v, %v", l, err)
	}
	if oid.Hex(l[3].Base) != "f0154394a2da61b41e12cd93aa41f154b3cbf5fc" {
		t.Errorf("%x", l[3].Base)
	}
	if s, err := pack.Name(b); s != "pack-95c82a6cd348c652ea4eea9aea06ac37b8c3dc3d" || err != api.OK {
		t.Errorf("%s, %v", s, err)
	}
}

func TestP1502GitNone(t *testing.T) {
	want := fromHex(t, gitNone)
	if b, at, err := pack.Write(nil, 1); string(b) != string(want) || len(at) != 0 || err != api.OK {
		t.Errorf("Write(nil): %x, %v, %v", b, at, err)
	}
	if s, err := pack.Name(want); s != "pack-029d08823bd8a8eab510ad6ac75c823cfd3ed31e" || err != api.OK {
		t.Errorf("%s, %v", s, err)
	}
	checkRead(t, want)
}
