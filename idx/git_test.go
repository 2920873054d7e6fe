package idx_test

import (
	"bytes"
	"encoding/binary"
	"encoding/hex"
	"math"
	"slices"
	"testing"

	"trove/api"
	"trove/idx"
	"trove/oid"
)

// Packs that git made (git pack-objects): two that begin alike, whose deltas have their bases by place and by name; one of nothing.
const (
	gitFront = "5041434b000000020000000c980a789c7d8e310ec2300c00f7bc223b8bebd84e2321044f496247652845952bf17c4062e6869b6e38dfcd624f066830" +
		"1a0189a1b4015d2915ad2253b3d990b96182f0acbb3d3ca230b36602a136f75115b0a46c29a9646011ce550b11867af8b2edf116cff5fabac429c38f" +
		"78fa3af46d5defeef62709be7c16c31b55952c9fc806789c2d8acb0a80201000ef7ec5debbec4af98088fa14571729102324eaef43680e3397a97c48" +
		"6c901291474633698c1a253871e498c5b237e8184713fcc846b5f71488b594bda91632dcd493e5820de6b03e0b90c51f18ba551fd4073fda1cd5960a" +
		"789c7dcabd0a42310c40e1bd4f91dd25fd6f40441f258d093a5c2ba5177d7c119c3dc3379d3555a1c7225402c720943ad5129a54cc6adc9a592ee423" +
		"27aeea9e3cf5b1c0043b4625edc4d14b6d3d4949815a4e0df18a56ad24f4ec785fb731e102473ebf4fe02bfe82c3572763dbee6be99fc5add7701f1e" +
		"922c5b9607789c2b294a4d55b034b54c34b2344b494c4b32354e4d33334e313549354d4c324f4d324f49324c4db6484c4d354f49e34a2c2dc9c82f52" +
		"7054b04974a8b0533034378002056d10c9959c9f9b9b5952928a4709577e5e2a17000d67204ea903789c3334303033315148643012d9b9235c2254be" +
		"7b7bc1ed2939f7953c2a9f5b99180081420ac3814fc7bd2f08d4be9bdf745f34d2a85130bdd16611004aaa163aad01789c33343030333151c86070dd" +
		"d9bccf6cbb0d7bc79d397bb6e7ec6ef853bd211c0099170cbfa903789c333430303331514864f820ea3c65d1adc42d72426727af72fc18b2f9f4d73f" +
		"260640a090c270e0d371ef0b02b5efe637dd178d346a144c6fb4590400a87418cca903789c333430303331514864b8ddb874c38a98ad8fe716c60ad4" +
		"a6ecf9cafe604ab689011028a4301cf874dcfb8240edbbf94df745238d1a05d31b6d160100ac3b1870b43e789c85d3496e1c310c05d0bd4f51170820" +
		"8a1487dc8683641be874037127c8f1a36451bdac1d574fe2f06f9ff779c0f158871fcff9e7793c3ffc797c7e1db7c7fdfd98f7c7aff78fefc71ccb89" +
		"560f848415636070eb3005b955931a65b0d698c7f1ededf64fec57a21069a9983aa136e05e148397058d3efbdad5ec34c54f11af44c78a91806b5973" +
		"6463eca2c98e36694eccbeddfd189f225d89961c6d88f7b032766a2c2e641b0b8c06430bade582531c57e29e130965c36621e9cd1cb497aa2ed9a6b8" +
		"ae09c83d4f91afc4ccd50542149b6eca410c74f4f099bb46591993c2da297ecddff37ea5eec6989695972d6ec8980ac1aad8a96c04cd94d4867aaa7a" +
		"25eeb6c6fe27813b905742cbb1304da508b3f5d4358aec25da9518ec518365b9d86eb281713543df5bda1341864a4ed738456857240161a123818ac0" +
		"a0e269a30310d3845ab0771e42512ff2323955027b500b89710d803985dabed48c54011bd8f6fe0d5e1b87cbe8788d9d11aedcb75950da472cb25a62" +
		"c5613ac39578c6ff30fe78fc9c6f7f01de042728"
	gitByPlace = "67820f789c7bc27e9f7dc37d66000eb50364e2018221789c7bc27e9b7dc3474646f3c90ecc8a9bc5994e300200443c063433789ccbc8e40200021700" +
		"dc615e51f8fa8d31fa4a66cc5463e746da46154f6a"
	gitByName = "773214b9b85718551f8bb770db946cdf224879e73a789c7bc27e9f7dc37d66000eb50364f2013214b9b85718551f8bb770db946cdf224879e73a789c" +
		"7bc27e9b7dc3474646f3c90ecc8a9bc5994e300200443c063433789ccbc8e40200021700dc93bdc3ab72952929b81506a604f1690e9345d513"
	gitNone = "5041434b0000000200000000029d08823bd8a8eab510ad6ac75c823cfd3ed31e"
)

// The last twenty bytes of the indexes that git made of these (git index-pack): a sum, that is, of all their bytes. The last two are of the first pack: one whose places have eight bytes from 1025 on (--index-version=2,0x400), and one of version 1.
const (
	sumByPlace = "9ad70878789063ed5e6ea25e575e8dd8a4b938d0"
	sumByName  = "7899f7d2ce9eace6a4514a60d426f34010c71c23"
	sumNone    = "90d39334e246476317ea469e57a7a5bdb8467468"
	sumFar     = "7a6510f0d963386318ef58b77b36b3aad08fff95"
	sumElder   = "879767be5c5f75c19998acb2348184789cafa4c5"
)

// gitRows: what git itself tells of the first pack's index (git show-index), in its order.
func gitRows(t testing.TB) []idx.Row {
	t.Helper()
	row := func(at int, name string, crc uint32) idx.Row {
		return idx.Row{ID: api.ID(fromHex(t, name)), Crc: crc, At: at}
	}
	return []idx.Row{
		row(238, "26555d74064b8cfad02937e33d67056657ad9442", 0x3f1a6470),
		row(701, "3214b9b85718551f8bb770db946cdf224879e73a", 0xcf9864bc),
		row(1149, "45b983be36b73c0788dc9cbcb76cbb80fc7bb057", 0x92e7f8d3),
		row(633, "959a296dafb53ef63d54e5ab7eb7db1ec8aee7df", 0xa1c3ebfb),
		row(565, "b36c962a32c94b97628c705efa88ff56913a4a7e", 0x06ff94c5),
		row(525, "c0f2c74bd0107dee9f82df155932811167813ca2", 0x975c2227),
		row(458, "c3e02e0fb4046e26bf0cd439da661be8e255b230", 0xac41ccc1),
		row(140, "d3b239c42d7b0aa140a5c3b9b3acd6d1a830b543", 0xca09a8ba),
		row(1118, "db81a5b0a85cb5e39d715d107d64bcf507e0946b", 0x01f15e45),
		row(12, "dd1190b06520c20ea8e818bbe7b9608b046a94b6", 0xced52ee5),
		row(1100, "f0154394a2da61b41e12cd93aa41f154b3cbf5fc", 0x1e7cce6d),
		row(363, "fc0b03e9eb9a31c78b4c6429854800d0f7f6401a", 0xd1352457),
	}
}

const gitTrailer = "615e51f8fa8d31fa4a66cc5463e746da46154f6a"

func fromHex(t testing.TB, s string) []byte {
	t.Helper()
	b, err := hex.DecodeString(s)
	if err != nil {
		t.Fatal(err)
	}
	return b
}

// endsWith demands that b ends with git's sum, and that this is the sum of all ahead: so these are git's bytes.
func endsWith(t *testing.T, b []byte, sum string) {
	t.Helper()
	if !bytes.HasSuffix(b, fromHex(t, sum)) || !bytes.Equal(resealed(b), b) {
		t.Errorf("%x ends with another sum than %s", b, sum)
	}
}

// TestP1702Git: Of makes just git's indexes.
func TestP1702Git(t *testing.T) {
	for _, c := range []struct {
		pack, sum string
		n         int
	}{{gitFront + gitByPlace, sumByPlace, 12}, {gitFront + gitByName, sumByName, 12}, {gitNone, sumNone, 0}} {
		p := fromHex(t, c.pack)
		b := checkOf(t, p)
		endsWith(t, b, c.sum)
		x, err := idx.Open(b)
		if err != api.OK || x.Len() != c.n || x.Trailer() != api.ID(p[len(p)-20:]) {
			t.Errorf("%s: %v", c.sum, err)
		}
	}
}

// TestP1701Git: Build of what git tells makes git's index, and Open tells it again.
func TestP1701Git(t *testing.T) {
	rows, trailer := gitRows(t), api.ID(fromHex(t, gitTrailer))
	turned := slices.Clone(rows)
	slices.Reverse(turned)
	b, err := checkBuild(t, turned, trailer)
	if err != api.OK {
		t.Fatal(err)
	}
	endsWith(t, b, sumByPlace)
	x, err := idx.Open(b)
	if err != api.OK {
		t.Fatal(err)
	}
	checkIndex(t, x, rows, trailer)
	if r, is := x.Find(api.ID(fromHex(t, "dd1190b06520c20ea8e818bbe7b9608b046a94b6"))); !is || r.At != 12 || oid.Hex(r.ID)[:4] != "dd11" {
		t.Errorf("%+v, %v", r, is)
	}
}

// TestP1701GitOther: git's forms that Build does not make are none.
func TestP1701GitOther(t *testing.T) {
	far := laid(gitRows(t), api.ID(fromHex(t, gitTrailer)), 1025)
	endsWith(t, far, sumFar)
	wrong(t, "near places of eight bytes", far, api.ErrForm)
	plain := laid(gitRows(t), api.ID{}, math.MaxInt)
	elder := slices.Clone(plain[8:1032])
	for _, r := range gitRows(t) {
		elder = append(binary.BigEndian.AppendUint32(elder, uint32(r.At)), r.ID[:]...)
	}
	elder = sealed(append(elder, fromHex(t, gitTrailer)...))
	endsWith(t, elder, sumElder)
	wrong(t, "version 1", elder, api.ErrForm)
}
