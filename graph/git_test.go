package graph_test

import (
	"bytes"
	"encoding/hex"
	"slices"
	"strconv"
	"strings"
	"testing"

	"trove/api"
	"trove/graph"
)

// Commits that git made, as git log tells of them: name, tree, date, parents.
const gitCommits = `b45ebdeaf420370a7fb8bcd5b0669dff3df24704 9366826f4307dae946c0a34de8057cb53df310cd 1 7bcc0cac7184d056c6a94e152360ed4cf50e15f3
5cf054bfc296d0e94e902bbe68311b13a773a6f2 2c01b7afe323738ffa774328100f490219f60b8a 2 78a47c427b5cfed76cdd87575d8d00ea14a57932 b45ebdeaf420370a7fb8bcd5b0669dff3df24704
e839d212a34041dcd612e990ca57861f2ffdceea f7018c8e7ce6ba9900b1f4f8e6712b76e4671d35 4294967296 970c392fcf27a4336a6993a87ca09ccd777a93c9
ce03f2414b17acf28939a78dc39ba6116c793555 10f2f4b82222d2b5c31985130979a91fd87410f7 8589934592 ed2d2b4630c54f1d9688385e26f58e482cd252b9 7bcc0cac7184d056c6a94e152360ed4cf50e15f3 cde8d56df78a2cee61bd6cc650c6b3782138ee24
78a47c427b5cfed76cdd87575d8d00ea14a57932 c9515d979d13c404d8dff0619fd4c4aea6ac5c42 12884901889 19510e67d73001d11a3b383384b8c70a05217f14 970c392fcf27a4336a6993a87ca09ccd777a93c9 99b35d948270de4e41b88e96b43212bfca941ef6 bb9a90fba62e97cf83f98e030fe61a2b1afd6512 e839d212a34041dcd612e990ca57861f2ffdceea
970c392fcf27a4336a6993a87ca09ccd777a93c9 3be22be77da4887e869c981806d8452f034dd014 1000
7bcc0cac7184d056c6a94e152360ed4cf50e15f3 055ad67a1bd9ee739a5f432d396858ad7feb7b68 78 cde8d56df78a2cee61bd6cc650c6b3782138ee24 e839d212a34041dcd612e990ca57861f2ffdceea 970c392fcf27a4336a6993a87ca09ccd777a93c9 61c17002ece710222645feb495de6bef7b2e235e
61c17002ece710222645feb495de6bef7b2e235e 02573c73b30e30f3a6e02d69f95677b44b442333 0
bb9a90fba62e97cf83f98e030fe61a2b1afd6512 bd01c71771fc3ab12e892ee68d0f17514b70f340 5 e839d212a34041dcd612e990ca57861f2ffdceea 99b35d948270de4e41b88e96b43212bfca941ef6 61c17002ece710222645feb495de6bef7b2e235e
ed2d2b4630c54f1d9688385e26f58e482cd252b9 141b762c9dd37c85d07dba753a2f94c21a053fe6 3 5cf054bfc296d0e94e902bbe68311b13a773a6f2 61c17002ece710222645feb495de6bef7b2e235e
19510e67d73001d11a3b383384b8c70a05217f14 8fecaa0af926d864d8e55f05104cabb500c3c239 1700000000 bb9a90fba62e97cf83f98e030fe61a2b1afd6512
99b35d948270de4e41b88e96b43212bfca941ef6 f13d7a9fb7393bc2311e55592fc17d8814d98eb6 17179869183 970c392fcf27a4336a6993a87ca09ccd777a93c9 61c17002ece710222645feb495de6bef7b2e235e
cde8d56df78a2cee61bd6cc650c6b3782138ee24 d34536659e493ddb7df247223c3a39cff3e65fc8 77 61c17002ece710222645feb495de6bef7b2e235e`

// The graphs that git made of what some of these lead to (git commit-graph write, without bloom filters and with the generations of version 1): the fronts of those names, how many commits there are, how many bytes, the last twenty of them. A sum, that is, of all.
const gitGraphs = `970c 1 1156 d49f86b7083b151d478e14461e94f1f29636a350
e839 2 1212 a36e0c5cc96112c435eff310efd9bc251b28e851
99b3 3 1268 84edb142233a40498fd4bae1d0fb72b2bd1ce433
bb9a 5 1400 8f672a02a188175969d65fabdfd4156917de4724
7bcc 5 1404 ba6956dac6d423be9dfa0651768ae6630115922e
78a4 7 1528 dd18d6d691c87425fc2e4a02929be3be94a6df05
bb9a,7bcc 7 1524 381e8d8ce9b6fbf7f03c66c30a39d9919ebe9c88
ce03 13 1884 ce6846a8192cd00bf661ecd8048a5ff920b9135b`

func gitID(t testing.TB, s string) api.ID {
	t.Helper()
	b, err := hex.DecodeString(s)
	if err != nil {
		t.Fatal(err)
	}
	return api.ID(b)
}

// gitNodes answers the commits by their names.
func gitNodes(t testing.TB) map[api.ID]graph.Node {
	t.Helper()
	all := map[api.ID]graph.Node{}
	for line := range strings.Lines(gitCommits) {
		words := strings.Fields(line)
		n := graph.Node{ID: gitID(t, words[0]), Tree: gitID(t, words[1])}
		date, err := strconv.Atoi(words[2])
		if err != nil {
			t.Fatal(err)
		}
		n.Date = date
		for _, s := range words[3:] {
			n.Parents = append(n.Parents, gitID(t, s))
		}
		all[n.ID] = n
	}
	return all
}

// led answers those of which the names begin so, and all that they lead to, these first.
func led(all map[api.ID]graph.Node, fronts []string) []graph.Node {
	var l []graph.Node
	var add func(id api.ID)
	add = func(id api.ID) {
		if slices.ContainsFunc(l, func(n graph.Node) bool { return n.ID == id }) {
			return
		}
		for _, p := range all[id].Parents {
			add(p)
		}
		l = append(l, all[id])
	}
	for id := range all {
		if slices.Contains(fronts, hex.EncodeToString(id[:2])) {
			add(id)
		}
	}
	return l
}

// TestP1902Git: Build makes just git's graphs, and Closed finds what is led to of all but a few.
func TestP1902Git(t *testing.T) {
	all := gitNodes(t)
	for line := range strings.Lines(gitGraphs) {
		words := strings.Fields(line)
		l := led(all, strings.Split(words[0], ","))
		sum := gitID(t, words[3])
		b, err := checkBuild(t, l)
		if err != api.OK || strconv.Itoa(len(l)) != words[1] || strconv.Itoa(len(b)) != words[2] || !bytes.HasSuffix(b, sum[:]) || !bytes.Equal(resealed(b), b) {
			t.Errorf("%s: %d commits, %d bytes, %v", words[0], len(l), len(b), err)
		}
		closed, _, err := checkClosed(t, append(l, graph.Node{ID: api.ID{1}, Parents: []api.ID{l[0].ID, {2}}}))
		if err != api.OK || len(closed) != len(l) {
			t.Errorf("%s: %d closed, %v", words[0], len(closed), err)
		}
	}
}
