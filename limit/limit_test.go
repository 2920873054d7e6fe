package limit_test

import (
	"math"
	"math/rand"
	"slices"
	"testing"

	"trove/api"
	"trove/huff"
	"trove/limit"
)

const (
	maxCount = 1 << 24
	never    = math.MaxInt / 4 // the cost of what makes no code
)

func many(n, v int) []int { return slices.Repeat([]int{v}, n) }

// coming: how many symbols come.
func coming(counts []int) int {
	n := 0
	for _, c := range counts {
		if c > 0 {
			n++
		}
	}
	return n
}

func cost(lens, counts []int) int {
	sum := 0
	for sym, n := range lens {
		sum += n * counts[sym]
	}
	return sum
}

// isComplete: what the codes take up of a whole, for lengths up to 60.
func isComplete(lens []int) bool {
	taken := 0
	for _, n := range lens {
		if n > 0 {
			taken += 1 << 60 >> n
		}
	}
	return taken == 1<<60
}

// isAllowed says P601 of a code without its cost: just the symbols that come have bits, at most most, and the whole is complete, or one bit.
func isAllowed(lens, counts []int, most int) bool {
	if len(lens) != len(counts) {
		return false
	}
	sum := 0
	for sym, n := range lens {
		if n < 0 || n > most || (n > 0) != (counts[sym] > 0) {
			return false
		}
		sum += n
	}
	if coming(counts) < 2 {
		return sum == coming(counts)
	}
	return isComplete(lens)
}

// leastOfAll tries every code there is.
func leastOfAll(counts []int, most int) int {
	least := never
	lens := make([]int, len(counts))
	var try func(sym int)
	try = func(sym int) {
		if sym == len(counts) {
			if isAllowed(lens, counts, most) {
				least = min(least, cost(lens, counts))
			}
			return
		}
		for n := range most + 1 {
			lens[sym] = n
			try(sym + 1)
		}
	}
	try(0)
	return least
}

// slowLeast goes down a tree row by row: each place of a row is a symbol, the most frequent of those left first, or two places of the row below.
func slowLeast(counts []int, most int) int {
	order := slices.DeleteFunc(slices.Clone(counts), func(n int) bool { return n == 0 })
	slices.SortFunc(order, func(a, b int) int { return b - a })
	n := len(order)
	if n < 2 {
		return append(order, 0)[0]
	}
	left := make([]int, n+1) // what the symbols from each one on cost a row
	for k := n - 1; k >= 0; k-- {
		left[k] = left[k+1] + order[k]
	}
	var below [][]int // the least cost of the row below, by the symbols that stand above it and its places
	for range most {
		row := make([][]int, n+1)
		for k := n; k >= 0; k-- {
			row[k] = slices.Repeat([]int{never}, n-k+1) // more places than symbols are never filled
			for places := range row[k] {
				if places == 0 {
					if k == n {
						row[k][0] = 0
					}
					continue
				}
				best := row[k+1][places-1]
				if below != nil && 2*places <= n-k {
					best = min(best, left[k]+below[k][2*places])
				}
				row[k][places] = best
			}
		}
		below = row
	}
	return min(never, left[0]+below[0][2])
}

// fibonacci: n counts that make the deepest tree.
func fibonacci(n int) []int {
	l := []int{1, 1}
	for len(l) < n {
		l = append(l, l[len(l)-1]+l[len(l)-2])
	}
	return l[:n]
}

// doubling: 1, and 1, 2, 4 up to 2^24.
func doubling() []int {
	l := []int{1}
	for k := range 25 {
		l = append(l, 1<<k)
	}
	return l
}

// mixed: counts of all sizes at random, some 0.
func mixed(random *rand.Rand, n int) []int {
	l := make([]int, n)
	for k := range l {
		switch random.Intn(4) {
		case 0:
			l[k] = random.Intn(3)
		case 1:
			l[k] = random.Intn(20)
		case 2:
			l[k] = 1 << random.Intn(25)
		case 3:
			l[k] = random.Intn(maxCount + 1)
		}
	}
	return l
}

// someCounts: ordinary ones and the edges.
func someCounts() [][]int {
	l := [][]int{
		nil, {}, {0}, many(288, 0),
		{1}, {7}, {maxCount}, {0, 0, 5}, append(many(287, 0), 3),
		{1, 1}, {0, 3, 0, 9}, {maxCount, 1}, {maxCount, maxCount},
		{1, 1, 1}, {1, 2, 4, 8}, {5, 0, 9, 12, 13, 16, 45},
		many(16, 1), many(256, 7), many(257, 7), many(288, 1), many(288, maxCount),
		append(many(287, 1), maxCount), append(many(144, 1), many(144, maxCount)...),
		fibonacci(16), fibonacci(17), fibonacci(36), doubling(),
		slices.Concat(many(200, 1), fibonacci(36)), slices.Concat(doubling(), many(100, 0), many(100, 3)),
	}
	random := rand.New(rand.NewSource(601))
	for n := 2; n <= 288; n += 1 + n/4 {
		l = append(l, mixed(random, n))
	}
	return append(l, mixed(random, 288))
}

// wrongCounts: too many, or one that may not be, wherever it stands.
func wrongCounts() [][]int {
	l := [][]int{many(289, 0), many(289, 1), many(1000, 1)}
	for _, n := range []int{-1, -maxCount, math.MinInt, maxCount + 1, math.MaxInt} {
		l = append(l, []int{n}, []int{n, 1}, []int{1, 2, n}, []int{0, n, 0}, append(many(287, 1), n), append(many(288, 1), n))
	}
	return l
}

func wrongMosts() []int { return []int{0, -1, 16, 17, 63, 64, math.MinInt, math.MaxInt} }

func checkLengths(t *testing.T, counts []int, most int) {
	t.Helper()
	lens, err := limit.Lengths(counts, most)
	least, leastErr := limit.Least(counts, most)
	if coming(counts) > 1<<most {
		if err != api.ErrFull || len(lens) != 0 || leastErr != api.ErrFull || least != 0 {
			t.Fatalf("%v, %d: Lengths %v, %v, Least %d, %v", counts, most, lens, err, least, leastErr)
		}
		return
	}
	want := slowLeast(counts, most)
	if err != api.OK || !isAllowed(lens, counts, most) || cost(lens, counts) != want {
		t.Fatalf("Lengths(%v, %d): %v, %v: cost %d, not %d", counts, most, lens, err, cost(lens, counts), want)
	}
	if leastErr != api.OK || least != want {
		t.Fatalf("Least(%v, %d): %d, %v, not %d", counts, most, least, leastErr, want)
	}
}

func checkPlain(t *testing.T, counts []int) {
	t.Helper()
	lens, err := limit.Plain(counts)
	if want := slowLeast(counts, 60); err != api.OK || !isAllowed(lens, counts, 60) || cost(lens, counts) != want {
		t.Fatalf("Plain(%v): %v, %v: cost %d, not %d", counts, lens, err, cost(lens, counts), want)
	}
}

// FuzzP601: whatever the counts, a best code or the right refusal.
func FuzzP601(f *testing.F) {
	f.Add([]byte{1, 1, 2, 3, 5, 8, 13, 21, 34, 0, 55}, 4)
	f.Add([]byte{}, 1)
	f.Add([]byte{9}, 16)
	f.Fuzz(func(t *testing.T, b []byte, most int) {
		counts := make([]int, len(b))
		for k, c := range b {
			counts[k] = int(c&31) << (c >> 5 * 3)
		}
		if len(counts) > 288 || slices.ContainsFunc(counts, func(n int) bool { return n > maxCount }) {
			if lens, err := limit.Plain(counts); err != api.ErrArg || len(lens) != 0 {
				t.Fatalf("Plain(%v): %v, %v", counts, lens, err)
			}
			return
		}
		checkPlain(t, counts)
		if most >= 1 && most <= 15 {
			checkLengths(t, counts, most)
		} else if lens, err := limit.Lengths(counts, most); err != api.ErrArg || len(lens) != 0 {
			t.Fatalf("Lengths(%v, %d): %v, %v", counts, most, lens, err)
		}
	})
}

// eachList ranges over all lists of n numbers below end.
func eachList(n, end int, do func(l []int)) {
	l := make([]int, n)
	var from func(k int)
	from = func(k int) {
		if k == n {
			do(slices.Clone(l))
			return
		}
		for l[k] = 0; l[k] < end; l[k]++ {
			from(k + 1)
		}
		l[k] = 0
	}
	from(0)
}

// TestP601TheModel holds the slow way that the other tests lean on against all codes that there are.
func TestP601TheModel(t *testing.T) {
	for n := range 5 {
		eachList(n, 4, func(counts []int) {
			for most := 1; most <= 4; most++ {
				if a, b := slowLeast(counts, most), leastOfAll(counts, most); a != b {
					t.Fatalf("%v, %d: %d, not %d", counts, most, a, b)
				}
			}
		})
	}
}

// TestP601AllSmall: all lists of a few small counts, with their many ties.
func TestP601AllSmall(t *testing.T) {
	for n := range 8 {
		eachList(n, 5, func(counts []int) {
			if !slices.IsSorted(counts) && n > 5 {
				return
			}
			checkPlain(t, counts)
			for most := 1; most <= 7; most++ {
				checkLengths(t, counts, most)
			}
		})
	}
}

func TestP601Some(t *testing.T) {
	for _, counts := range someCounts() {
		checkPlain(t, counts)
		for most := 1; most <= 15; most++ {
			checkLengths(t, counts, most)
		}
	}
}

// TestP601Random: middling lists, of few unlike counts too.
func TestP601Random(t *testing.T) {
	random := rand.New(rand.NewSource(602))
	for range 300 {
		counts := mixed(random, 2+random.Intn(40))
		if random.Intn(2) == 0 {
			for k := range counts {
				counts[k] %= 4
			}
		}
		checkPlain(t, counts)
		checkLengths(t, counts, 1+random.Intn(15))
	}
}

func TestP601LengthsByHand(t *testing.T) {
	for _, x := range []struct {
		counts []int
		most   int
		want   []int
	}{
		{nil, 1, nil},
		{[]int{0, 0}, 15, []int{0, 0}},
		{[]int{7}, 1, []int{1}},
		{[]int{0, 7, 0}, 15, []int{0, 1, 0}},
		{[]int{1, maxCount}, 1, []int{1, 1}},
		{[]int{0, 1, 0, 9}, 1, []int{0, 1, 0, 1}},
		{[]int{9, 1, 1}, 2, []int{1, 2, 2}},
		{[]int{1, 1, 9}, 15, []int{2, 2, 1}},
		{[]int{1, 1, 1, 1}, 2, []int{2, 2, 2, 2}},
		{[]int{1, 2, 4, 8}, 2, []int{2, 2, 2, 2}},
		{[]int{1, 2, 4, 8}, 3, []int{3, 3, 2, 1}},
		{[]int{1, 2, 4, 8, 16}, 3, []int{3, 3, 3, 3, 1}},
		{[]int{1, 2, 4, 8, 16}, 4, []int{4, 4, 3, 2, 1}},
		{[]int{5, 9, 12, 13, 16, 45}, 15, []int{4, 4, 3, 3, 3, 1}},
		{[]int{5, 9, 12, 13, 16, 45}, 3, []int{3, 3, 3, 3, 2, 2}},
	} {
		lens, err := limit.Lengths(x.counts, x.most)
		if err != api.OK || !slices.Equal(lens, x.want) {
			t.Errorf("Lengths(%v, %d): %v, %v, not %v", x.counts, x.most, lens, err, x.want)
		}
	}
}

func TestP601PlainByHand(t *testing.T) {
	for _, x := range []struct{ counts, want []int }{
		{nil, nil},
		{[]int{0}, []int{0}},
		{many(288, 0), many(288, 0)},
		{[]int{maxCount}, []int{1}},
		{[]int{0, 0, 3}, []int{0, 0, 1}},
		{[]int{1, maxCount}, []int{1, 1}},
		{[]int{9, 0, 1, 1}, []int{1, 0, 2, 2}},
		{[]int{1, 2, 4, 8, 16}, []int{4, 4, 3, 2, 1}},
		{[]int{5, 9, 12, 13, 16, 45}, []int{4, 4, 3, 3, 3, 1}},
		{many(256, 3), many(256, 8)},
	} {
		if lens, err := limit.Plain(x.counts); err != api.OK || !slices.Equal(lens, x.want) {
			t.Errorf("Plain(%v): %v, %v, not %v", x.counts, lens, err, x.want)
		}
	}
}

func TestP601LeastByHand(t *testing.T) {
	for _, x := range []struct {
		counts     []int
		most, want int
	}{
		{nil, 1, 0},
		{many(288, 0), 15, 0},
		{[]int{9}, 1, 9},
		{[]int{0, maxCount, 0}, 15, maxCount},
		{[]int{1, maxCount}, 1, maxCount + 1},
		{[]int{1, 2, 4, 8, 16}, 4, 56},
		{[]int{1, 2, 4, 8, 16}, 3, 61},
		{many(256, maxCount), 8, 1 << 35},
		{many(288, maxCount), 15, maxCount * (224*8 + 64*9)},
	} {
		if least, err := limit.Least(x.counts, x.most); err != api.OK || least != x.want {
			t.Errorf("Least(%v, %d): %d, %v, not %d", x.counts, x.most, least, err, x.want)
		}
	}
}

// TestP601Deep: without a bound the tree is as deep as the counts make it; with one no deeper than that.
func TestP601Deep(t *testing.T) {
	for _, x := range []struct {
		counts []int
		deep   int
	}{{fibonacci(16), 15}, {fibonacci(17), 16}, {fibonacci(36), 35}, {doubling(), 25}} {
		plain, err := limit.Plain(x.counts)
		if err != api.OK || slices.Max(plain) != x.deep {
			t.Errorf("Plain(%v): %v, %v", x.counts, plain, err)
		}
		for most := 6; most <= 15; most++ {
			least, err := limit.Least(x.counts, most)
			if err != api.OK || least < cost(plain, x.counts) || (least == cost(plain, x.counts)) != (x.deep <= most) {
				t.Errorf("Least(%v, %d): %d, %v", x.counts, most, least, err)
			}
		}
	}
}

// TestP601Full: just as many symbols as there is room for, whatever their counts, and one more; those that do not come take no room.
func TestP601Full(t *testing.T) {
	random := rand.New(rand.NewSource(603))
	for most := 1; most <= 8; most++ {
		counts := make([]int, 1<<most)
		for k := range counts {
			counts[k] = 1 + random.Intn(maxCount)
		}
		if lens, err := limit.Lengths(counts, most); err != api.OK || !slices.Equal(lens, many(1<<most, most)) {
			t.Errorf("Lengths(%v, %d): %v, %v", counts, most, lens, err)
		}
		wide := slices.Concat(many(16, 0), counts, many(16, 0))
		if lens, err := limit.Lengths(wide, most); err != api.OK || !slices.Equal(lens, slices.Concat(many(16, 0), many(1<<most, most), many(16, 0))) {
			t.Errorf("Lengths(%v, %d): %v, %v", wide, most, lens, err)
		}
		wide[0] = 1
		if lens, err := limit.Lengths(wide, most); err != api.ErrFull || len(lens) != 0 {
			t.Errorf("Lengths(%v, %d): %v, %v", wide, most, lens, err)
		}
		if least, err := limit.Least(wide, most); err != api.ErrFull || least != 0 {
			t.Errorf("Least(%v, %d): %d, %v", wide, most, least, err)
		}
		if lens, err := limit.Plain(wide); err != api.OK || !isAllowed(lens, wide, 60) {
			t.Errorf("Plain(%v): %v, %v", wide, lens, err)
		}
	}
}

func TestP601WrongCounts(t *testing.T) {
	for _, counts := range wrongCounts() {
		for _, most := range append(wrongMosts(), 1, 7, 15) { // ahead of ErrFull
			if lens, err := limit.Lengths(counts, most); err != api.ErrArg || len(lens) != 0 {
				t.Errorf("Lengths(%v, %d): %v, %v", counts, most, lens, err)
			}
			if least, err := limit.Least(counts, most); err != api.ErrArg || least != 0 {
				t.Errorf("Least(%v, %d): %d, %v", counts, most, least, err)
			}
		}
		if lens, err := limit.Plain(counts); err != api.ErrArg || len(lens) != 0 {
			t.Errorf("Plain(%v): %v, %v", counts, lens, err)
		}
	}
}

func TestP601WrongMost(t *testing.T) {
	for _, counts := range someCounts() {
		for _, most := range wrongMosts() {
			if lens, err := limit.Lengths(counts, most); err != api.ErrArg || len(lens) != 0 {
				t.Errorf("Lengths(%v, %d): %v, %v", counts, most, lens, err)
			}
			if least, err := limit.Least(counts, most); err != api.ErrArg || least != 0 {
				t.Errorf("Least(%v, %d): %d, %v", counts, most, least, err)
			}
		}
	}
}

// TestP601IsACode: package huff takes the lengths, and its cost is that of Least.
func TestP601IsACode(t *testing.T) {
	for _, counts := range someCounts() {
		lens, err := limit.Lengths(counts, 15)
		if err != api.OK {
			t.Fatalf("Lengths(%v, 15): %v", counts, err)
		}
		code, err := huff.New(lens, coming(counts) < 2)
		least, leastErr := limit.Least(counts, 15)
		if err != api.OK || leastErr != api.OK || code.Cost(counts) != least {
			t.Fatalf("%v: %v: %v, %d, %v", counts, lens, err, least, leastErr)
		}
	}
}

// TestP9FirstOfEqual: of parts that come as often the first ones are put together, symbols ahead of pairs.
func TestP9FirstOfEqual(t *testing.T) {
	for _, x := range []struct{ counts, want []int }{
		{[]int{1, 1, 1}, []int{2, 2, 1}},
		{many(5, 4), []int{3, 3, 2, 2, 2}},
		{[]int{1, 1, 2, 2}, []int{2, 2, 2, 2}},
		{[]int{2, 1, 0, 2, 1}, []int{2, 2, 0, 2, 2}},
		{many(7, 1), []int{3, 3, 3, 3, 3, 3, 2}},
	} {
		lens, err := limit.Lengths(x.counts, 15)
		plain, plainErr := limit.Plain(x.counts)
		if err != api.OK || plainErr != api.OK || !slices.Equal(lens, x.want) || !slices.Equal(plain, x.want) {
			t.Errorf("%v: Lengths %v, %v, Plain %v, %v, not %v", x.counts, lens, err, plain, plainErr, x.want)
		}
	}
}

// TestP2NothingKept: counts and the room behind them stay, answers are their caller's, and nothing stays from call to call (P3).
func TestP2NothingKept(t *testing.T) {
	for _, counts := range someCounts() {
		room := append(slices.Grow([]int(nil), len(counts)+8), counts...)
		whole := room[:cap(room)]
		for k := len(counts); k < len(whole); k++ {
			whole[k] = 7
		}
		was := slices.Clone(whole)
		lens, _ := limit.Lengths(room, 15)
		plain, _ := limit.Plain(room)
		limit.Least(room, 15)
		if !slices.Equal(whole, was) {
			t.Fatalf("%v: changed", counts)
		}
		lensWas, plainWas := slices.Clone(lens), slices.Clone(plain)
		for _, l := range [][]int{lens[:cap(lens)], plain[:cap(plain)]} {
			for k := range l {
				l[k] = -1
			}
		}
		if !slices.Equal(whole, was) {
			t.Fatalf("%v: shared", counts)
		}
		again, _ := limit.Lengths(counts, 15)
		plainAgain, _ := limit.Plain(counts)
		if !slices.Equal(again, lensWas) || !slices.Equal(plainAgain, plainWas) {
			t.Fatalf("%v: %v, %v, then %v, %v", counts, lensWas, plainWas, again, plainAgain)
		}
	}
}
