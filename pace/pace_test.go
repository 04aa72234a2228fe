package pace

import (
	"math"
	"math/big"
	"slices"
	"testing"
)

// between is the nearer bound of a number beyond them, told once more.
func between(n, least, most int) int {
	switch {
	case n < least:
		return least
	case n > most:
		return most
	}
	return n
}

// part is a number divided by another, what is left over being dropped, told once more: counted up from 0 on, below 0 as above.
func part(n, by int) int {
	if n < 0 {
		return -part(-n, by)
	}
	times := 0
	for n >= by {
		n -= by
		times++
	}
	return times
}

// parts are part's answers of all numbers from -4080 to 4080, at 4080 more each.
func parts(by int) []int {
	var l []int
	for n := -4080; n <= 4080; n++ {
		l = append(l, part(n, by))
	}
	return l
}

var quarters, sixteenths = parts(4), parts(16)

// rateBehind is the chapter's rate behind a change, told once more.
func rateBehind(rate, n int) int {
	rate, n = between(rate, 0, 4080), between(n, 0, 255)
	return rate + quarters[16*n-rate+4080]
}

// limitOf is the chapter's number of keys that a node may have, told once more.
func limitOf(rate, low, high int) int {
	low, high = between(low, 2, 64), between(high, 2, 64)
	if high < low {
		high = low
	}
	keys := low + sixteenths[between(rate, 0, 4080)+4080]
	if keys > high {
		return high
	}
	return keys
}

// joined is the chapter's word on two nodes, told once more in numbers without an end.
func joined(a, b, limit int) bool {
	sum := new(big.Int)
	for _, n := range []int{a, a, b, b} {
		sum.Add(sum, big.NewInt(int64(between(n, 0, 1<<30))))
	}
	return sum.Cmp(big.NewInt(int64(limit))) <= 0
}

// edges are numbers at which something of the chapter begins or ends, those beside them, and the ends of all numbers.
func edges() []int {
	l := []int{math.MinInt, math.MinInt + 1, math.MaxInt - 1, math.MaxInt}
	for _, n := range []int{-1 << 62, -1 << 32, -1 << 31, -1 << 30, -4080, -256, -255, -64, -16, 0, 2, 4, 7, 16, 32, 64, 128, 255, 960, 992, 2040, 4064, 4080, 4096, 1 << 16, 1 << 29, 1 << 30, 1 << 31, 1 << 32, 1 << 33, 1 << 60, 1 << 62} {
		l = append(l, n-1, n, n+1)
	}
	slices.Sort(l)
	return slices.Compact(l)
}

// 7.1: rates that were worked out elsewhere; the chapter's example is the first.
func TestRate(t *testing.T) {
	for _, x := range []struct{ rate, n, want int }{
		{0, 1, 4},
		{0, 0, 0}, {0, 2, 8}, {0, 3, 12}, {0, 254, 1016}, {0, 255, 1020},
		// More than 255 entries count as 255, fewer than 0 as 0.
		{0, 256, 1020}, {0, 257, 1020}, {1000, 255, 1770}, {1000, 256, 1770}, {1000, 300, 1770}, {4080, 256, 4080}, {0, math.MaxInt, 1020},
		{0, -1, 0}, {1000, 0, 750}, {1000, -1, 750}, {1000, -300, 750}, {4080, -1, 3060}, {4080, math.MinInt, 3060},
		// What is left over is dropped, on the way up and on the way down.
		{11, 1, 12}, {12, 1, 13}, {13, 1, 13}, {15, 1, 15}, {16, 1, 16}, {17, 1, 17}, {19, 1, 19}, {20, 1, 19}, {21, 1, 20}, {23, 1, 22}, {24, 1, 22},
		{1, 0, 1}, {2, 0, 2}, {3, 0, 3}, {4, 0, 3}, {5, 0, 4}, {7, 0, 6}, {8, 0, 6}, {15, 0, 12}, {16, 0, 12},
		{100, 10, 115}, {156, 10, 157}, {157, 10, 157}, {160, 10, 160}, {163, 10, 163}, {164, 10, 163}, {167, 10, 166}, {168, 10, 166}, {200, 10, 190}, {1000, 1, 754},
		{2040, 255, 2550}, {2040, 0, 1530},
		// The bounds of rates, and beyond.
		{4075, 255, 4076}, {4076, 255, 4077}, {4077, 255, 4077}, {4078, 255, 4078}, {4079, 255, 4079}, {4080, 255, 4080},
		{4080, 254, 4076}, {4080, 253, 4072}, {4080, 0, 3060}, {4080, 1, 3064},
		{4081, 255, 4080}, {4084, 255, 4080}, {4081, 0, 3060}, {4096, 254, 4076}, {5000, 100, 3460}, {math.MaxInt, 255, 4080}, {math.MaxInt, 0, 3060}, {math.MaxInt, math.MinInt, 3060}, {math.MaxInt, math.MaxInt, 4080},
		{-1, 0, 0}, {-1, 1, 4}, {-7, -7, 0}, {-16, 1, 4}, {-100, 255, 1020}, {math.MinInt, 255, 1020}, {math.MinInt, 0, 0}, {math.MinInt, 1, 4}, {math.MinInt, math.MinInt, 0}, {math.MinInt, math.MaxInt, 1020},
	} {
		if r := Rate(x.rate, x.n); r != x.want {
			t.Errorf("Rate(%d, %d) = %d, not %d", x.rate, x.n, r, x.want)
		}
	}
}

// 7.1: all rates and changes, and some beyond their bounds, held against the chapter's words.
func TestRateByTheWords(t *testing.T) {
	for n := -4; n <= 260; n++ {
		for rate := -40; rate <= 4120; rate++ {
			if r, want := Rate(rate, n), rateBehind(rate, n); r != want {
				t.Fatalf("Rate(%d, %d) = %d, not %d", rate, n, r, want)
			}
		}
	}
	for _, rate := range edges() {
		for _, n := range edges() {
			if r, want := Rate(rate, n), rateBehind(rate, n); r != want {
				t.Fatalf("Rate(%d, %d) = %d, not %d", rate, n, r, want)
			}
		}
	}
}

// 7.1: limits that were worked out elsewhere; the chapter's example is the first.
func TestLimit(t *testing.T) {
	for _, x := range []struct{ rate, low, high, want int }{
		{32, 4, 64, 6},
		// A sixteenth of the rate, and what is left over is dropped.
		{0, 4, 64, 4}, {15, 4, 64, 4}, {16, 4, 64, 5}, {17, 4, 64, 5}, {31, 4, 64, 5}, {47, 4, 64, 6}, {48, 4, 64, 7},
		{959, 4, 64, 63}, {960, 4, 64, 64}, {975, 4, 64, 64}, {976, 4, 64, 64}, {975, 2, 64, 62}, {976, 2, 64, 63}, {991, 2, 64, 63}, {992, 2, 64, 64},
		// Rates beyond their bounds.
		{4079, 4, 64, 64}, {4080, 4, 64, 64}, {4081, 4, 64, 64}, {4096, 4, 64, 64}, {math.MaxInt, 4, 64, 64}, {math.MaxInt, 2, 3, 3},
		{-1, 4, 64, 4}, {-16, 4, 64, 4}, {-17, 4, 64, 4}, {-100, 64, 64, 64}, {math.MinInt, 4, 64, 4},
		// At most high.
		{15, 2, 3, 2}, {16, 2, 3, 3}, {32, 2, 3, 3}, {0, 8, 9, 8}, {15, 8, 9, 8}, {16, 8, 9, 9}, {48, 8, 10, 10}, {47, 8, 12, 10}, {63, 8, 12, 11}, {64, 8, 12, 12}, {80, 8, 12, 12}, {100, 8, 12, 12}, {4080, 8, 12, 12}, {4080, 2, 64, 64},
		// Low below 2, 2, 64 and beyond.
		{0, 2, 2, 2}, {16, 2, 2, 2}, {0, 1, 64, 2}, {0, 0, 64, 2}, {0, -5, 64, 2}, {0, 3, 64, 3}, {16, 1, 64, 3}, {0, math.MinInt, 64, 2},
		{0, 63, 64, 63}, {15, 63, 64, 63}, {16, 63, 64, 64}, {32, 63, 64, 64}, {0, 64, 64, 64}, {16, 64, 64, 64}, {0, 65, 64, 64}, {16, 65, 66, 64}, {0, math.MaxInt, 64, 64}, {4080, math.MaxInt, 64, 64},
		// High below 2, 2, 64 and beyond.
		{16, 0, 1, 2}, {16, 0, 3, 3}, {16, 2, 1, 2}, {4080, -9, -3, 2}, {4080, 2, math.MinInt, 2}, {0, 63, 65, 63}, {64, 63, 1000, 64}, {5000, 2, 1000, 64}, {4080, 2, math.MaxInt, 64}, {16, 2, math.MaxInt, 3}, {math.MaxInt, math.MaxInt, math.MaxInt, 64}, {math.MinInt, math.MinInt, math.MinInt, 2},
		// Low above high.
		{0, 10, 5, 10}, {16, 10, 5, 10}, {4080, 10, 5, 10}, {16, 10, 1, 10}, {0, 2, 1, 2}, {0, 65, 2, 64}, {4080, 64, 2, 64}, {4080, 3, 2, 3}, {4080, math.MaxInt, math.MinInt, 64},
	} {
		if l := Limit(x.rate, x.low, x.high); l != x.want {
			t.Errorf("Limit(%d, %d, %d) = %d, not %d", x.rate, x.low, x.high, l, x.want)
		}
	}
}

// 7.1: all rates that make a difference, lows and highs, and some beyond their bounds, held against the chapter's words.
func TestLimitByTheWords(t *testing.T) {
	hold := func(rate, low, high int) {
		if l, want := Limit(rate, low, high), limitOf(rate, low, high); l != want {
			t.Fatalf("Limit(%d, %d, %d) = %d, not %d", rate, low, high, l, want)
		}
	}
	for low := -2; low <= 68; low++ {
		for high := -2; high <= 68; high++ {
			for rate := -16; rate <= 1040; rate += 8 {
				hold(rate-1, low, high)
				hold(rate, low, high)
			}
			hold(4080, low, high)
		}
	}
	for rate := -40; rate <= 4120; rate++ {
		for _, low := range []int{-1, 1, 2, 3, 8, 63, 64, 65} {
			for _, high := range []int{0, 2, 3, 12, 63, 64, 70} {
				hold(rate, low, high)
			}
		}
	}
	for _, rate := range edges() {
		for _, low := range edges() {
			for _, high := range edges() {
				hold(rate, low, high)
			}
		}
	}
}

// 7.1: a limit is from 2 to 64, no less than low within these bounds, and of a greater rate no less.
func TestLimitBounds(t *testing.T) {
	for low := 0; low <= 66; low++ {
		for high := 0; high <= 66; high++ {
			behind := 0
			for rate := -16; rate <= 4096; rate += 16 {
				l := Limit(rate, low, high)
				if l < 2 || l > 64 || l < min(low, 64) || l > max(low, high, 2) || l < behind {
					t.Fatalf("Limit(%d, %d, %d) = %d, behind %d", rate, low, high, l, behind)
				}
				behind = l
			}
		}
	}
}

// 7.2: a node of just as many keys as the limit isn't parted, one of one more is; no number is brought between bounds.
func TestSplits(t *testing.T) {
	for _, x := range []struct {
		keys, limit int
		want        bool
	}{
		{0, 0, false}, {1, 0, true}, {0, 1, false}, {2, 2, false}, {3, 2, true}, {1, 2, false}, {4, 6, false}, {6, 6, false}, {7, 6, true},
		{64, 64, false}, {65, 64, true}, {63, 64, false}, {65, 65, false}, {66, 65, true},
		{-1, 0, false}, {-1, -1, false}, {0, -1, true}, {-1, -2, true}, {-2, -1, false}, {-5, -3, false}, {-3, -5, true},
		{1 << 30, 1 << 30, false}, {1<<30 + 1, 1 << 30, true}, {1<<30 + 2, 1<<30 + 1, true}, {1<<30 + 1, 1<<30 + 2, false}, {1 << 40, 1<<40 - 1, true}, {1 << 40, 1 << 40, false},
		{math.MaxInt, 64, true}, {math.MaxInt, math.MaxInt, false}, {math.MaxInt, math.MaxInt - 1, true}, {math.MaxInt - 1, math.MaxInt, false},
		{math.MinInt, 0, false}, {0, math.MinInt, true}, {math.MinInt, math.MinInt, false}, {math.MinInt + 1, math.MinInt, true}, {math.MinInt, math.MinInt + 1, false}, {math.MinInt, math.MaxInt, false}, {math.MaxInt, math.MinInt, true},
	} {
		if s := Splits(x.keys, x.limit); s != x.want {
			t.Errorf("Splits(%d, %d) = %t", x.keys, x.limit, s)
		}
	}
}

// 7.2: rising numbers of keys and limits: whether a node is parted hangs on which comes first alone.
func TestSplitsByTheOrder(t *testing.T) {
	l := edges()
	for i, keys := range l {
		for j, limit := range l {
			if Splits(keys, limit) != (i > j) {
				t.Errorf("Splits(%d, %d) = %t", keys, limit, i <= j)
			}
		}
	}
}

// 7.2: limits that are just met, and passed by one; counts beyond their bounds count as the nearer bound, limits don't.
func TestJoins(t *testing.T) {
	for _, x := range []struct {
		a, b, limit int
		want        bool
	}{
		{0, 0, 0, true}, {0, 0, 1, true}, {1, 0, 1, false}, {0, 1, 1, false}, {1, 0, 2, true}, {0, 1, 2, true}, {1, 1, 2, false}, {1, 1, 3, false}, {1, 1, 4, true}, {2, 0, 4, true}, {2, 1, 4, false},
		{1, 2, 5, false}, {1, 2, 6, true}, {2, 1, 6, true}, {1, 2, 7, true}, {2, 2, 7, false}, {2, 2, 8, true}, {3, 0, 6, true}, {4, 0, 7, false}, {4, 0, 8, true},
		{16, 16, 64, true}, {16, 17, 64, false}, {17, 16, 64, false}, {32, 0, 64, true}, {0, 32, 64, true}, {33, 0, 64, false}, {0, 33, 64, false}, {31, 1, 64, true}, {16, 16, 63, false},
		// Fewer than 0 keys count as 0.
		{-1, 0, 0, true}, {0, -1, 0, true}, {-1, -1, 0, true}, {-1, 1, 1, false}, {1, -1, 1, false}, {-1, 1, 2, true}, {-5, 4, 7, false}, {4, -5, 7, false}, {-5, 4, 8, true}, {-100, 33, 64, false}, {33, -100, 64, false},
		{math.MinInt, math.MinInt, 0, true}, {math.MinInt, 1, 1, false}, {1, math.MinInt, 1, false}, {1, math.MinInt, 2, true}, {math.MinInt, math.MinInt, -1, false},
		// A limit below 0 is met by nobody.
		{0, 0, -1, false}, {-1, -1, -1, false}, {-1, -1, -4, false}, {-9, -9, -2, false}, {0, 0, math.MinInt, false}, {math.MinInt, math.MinInt, math.MinInt, false}, {math.MaxInt, math.MaxInt, math.MinInt, false}, {math.MaxInt, 0, -1, false},
		// More than 2^30 keys count as 2^30.
		{1 << 30, 0, 1<<31 - 1, false}, {1 << 30, 0, 1 << 31, true}, {1<<30 + 1, 0, 1 << 31, true}, {0, 1<<30 + 1, 1 << 31, true}, {1 << 40, 0, 1 << 31, true}, {0, math.MaxInt, 1 << 31, true}, {math.MaxInt, 0, 1<<31 - 1, false}, {1<<30 - 1, 0, 1<<31 - 2, true}, {1<<30 - 1, 0, 1<<31 - 3, false},
		{1 << 30, 1 << 30, 1<<32 - 1, false}, {1 << 30, 1 << 30, 1 << 32, true}, {1<<30 + 1, 1<<30 + 1, 1 << 32, true}, {math.MaxInt, math.MaxInt, 1 << 32, true}, {math.MaxInt, math.MaxInt, 1<<32 - 1, false}, {math.MaxInt, math.MaxInt, 64, false}, {math.MaxInt, math.MaxInt, math.MaxInt, true}, {math.MaxInt, 1, 1<<31 + 1, false}, {math.MaxInt, 1, 1<<31 + 2, true},
		{math.MaxInt, math.MinInt, 1 << 31, true}, {math.MinInt, math.MaxInt, 1 << 31, true}, {math.MaxInt, math.MinInt, 1<<31 - 1, false}, {1 << 62, 1 << 62, 0, false}, {1 << 62, 0, 0, false}, {0, 1 << 62, 0, false},
	} {
		if j := Joins(x.a, x.b, x.limit); j != x.want {
			t.Errorf("Joins(%d, %d, %d) = %t", x.a, x.b, x.limit, j)
		}
	}
}

// 7.2: small numbers, all of them, and those at edges, held against the chapter's words.
func TestJoinsByTheWords(t *testing.T) {
	for a := -3; a <= 40; a++ {
		for b := -3; b <= 40; b++ {
			for limit := -9; limit <= 170; limit++ {
				want := limit >= 0 && (max(a, 0)+max(b, 0))*2 <= limit
				if Joins(a, b, limit) != want {
					t.Fatalf("Joins(%d, %d, %d) = %t", a, b, limit, !want)
				}
			}
		}
	}
	for _, a := range edges() {
		for _, b := range edges() {
			for _, limit := range edges() {
				if want := joined(a, b, limit); Joins(a, b, limit) != want {
					t.Fatalf("Joins(%d, %d, %d) = %t", a, b, limit, !want)
				}
			}
		}
	}
}

// 7.2: which one of the two comes first makes no difference.
func TestJoinsEitherWay(t *testing.T) {
	for _, a := range edges() {
		for _, b := range edges() {
			for _, limit := range []int{-1, 0, 2, 64, 128, 1 << 31, 1<<32 - 1, 1 << 32, math.MaxInt} {
				if Joins(a, b, limit) != Joins(b, a, limit) {
					t.Errorf("Joins(%d, %d, %d) hangs on the order", a, b, limit)
				}
			}
		}
	}
}

// 7.3: rates stay within their bounds, whatever is handed in, and as near to the changes as they were, or come nearer.
func TestRatesStayWithin(t *testing.T) {
	l := edges()
	for rate := range 4081 {
		l = append(l, rate)
	}
	for _, rate := range l {
		for _, n := range append(edges(), 1, 100, 200, 254, 256) {
			r := Rate(rate, n)
			if r < 0 || r > 4080 {
				t.Fatalf("Rate(%d, %d) = %d", rate, n, r)
			}
			from, toward := between(rate, 0, 4080), 16*between(n, 0, 255)
			if r < min(from, toward) || r > max(from, toward) {
				t.Fatalf("Rate(%d, %d) = %d isn't between %d and %d", rate, n, r, from, toward)
			}
		}
	}
}

// 7.3: behind one change the greater one of two rates is no less than the other; so it is of the greater one of two changes.
func TestGreaterStays(t *testing.T) {
	for n := -2; n <= 257; n++ {
		for rate := -20; rate <= 4100; rate++ {
			r := Rate(rate, n)
			if Rate(rate+1, n) < r {
				t.Fatalf("Rate(%d, %d) = %d, Rate(%d, %d) = %d", rate, n, r, rate+1, n, Rate(rate+1, n))
			}
			if Rate(rate, n+1) < r {
				t.Fatalf("Rate(%d, %d) = %d, Rate(%d, %d) = %d", rate, n, r, rate, n+1, Rate(rate, n+1))
			}
		}
	}
	l := edges()
	for i, less := range l {
		for _, greater := range l[i:] {
			for _, n := range l {
				if Rate(less, n) > Rate(greater, n) || Rate(n, less) > Rate(n, greater) {
					t.Fatalf("%d and %d, with %d: the greater one has the lesser rate", less, greater, n)
				}
			}
		}
	}
}

// settled is where a rate stays behind changes of as many entries each, and behind how many of them.
func settled(rate, n int) (int, int) {
	for changes := 0; ; changes++ {
		next := Rate(rate, n)
		if next == rate || changes > 1000 {
			return rate, changes
		}
		rate = next
	}
}

// 7.3: behind many changes of as many entries each a rate is within 3 of 16 times as many, from wherever it comes, and stays there.
func TestRatesComeNear(t *testing.T) {
	for n := range 256 {
		for rate := 0; rate <= 4080; rate += 15 {
			end, changes := settled(rate, n)
			if end < 16*n-3 || end > 16*n+3 || changes > 40 {
				t.Fatalf("behind %d changes of %d entries each %d has become %d", changes, n, rate, end)
			}
		}
	}
	for _, n := range edges() {
		for _, rate := range edges() {
			end, _ := settled(Rate(rate, n), n)
			if toward := 16 * between(n, 0, 255); end < toward-3 || end > toward+3 {
				t.Errorf("changes of %d entries each bring %d to %d", n, rate, end)
			}
		}
	}
}

// 7.3: from 0 on a rate stops just 3 below, from 4080 on just 3 above, but where it comes from the very bound.
func TestRatesFromBothEnds(t *testing.T) {
	for n := range 256 {
		below, _ := settled(0, n)
		above, _ := settled(4080, n)
		if n > 0 && below != 16*n-3 || n == 0 && below != 0 {
			t.Errorf("changes of %d entries each bring 0 to %d", n, below)
		}
		if n < 255 && above != 16*n+3 || n == 255 && above != 4080 {
			t.Errorf("changes of %d entries each bring 4080 to %d", n, above)
		}
	}
	var up, down []int
	for rate, i := 0, 0; i < 8; i++ {
		rate = Rate(rate, 1)
		up = append(up, rate)
	}
	for rate, i := 32, 0; i < 8; i++ {
		rate = Rate(rate, 1)
		down = append(down, rate)
	}
	if !slices.Equal(up, []int{4, 7, 9, 10, 11, 12, 13, 13}) || !slices.Equal(down, []int{28, 25, 23, 22, 21, 20, 19, 19}) {
		t.Errorf("changes of one entry each: up %v, down %v", up, down)
	}
}

// 7.3: two nodes that are joined just so, and all others that are joined: what comes isn't parted, neither at the limit of which it was told nor at that of the greater rate behind it.
func TestJoinedIsntParted(t *testing.T) {
	for limit := -1; limit <= 140; limit++ {
		for a := range 80 {
			for b := range 80 {
				if Joins(a, b, limit) && Splits(a+b, limit) {
					t.Fatalf("of %d and %d keys, joined at the limit %d, one comes that is parted", a, b, limit)
				}
			}
		}
		if half := limit / 2; limit >= 0 && (!Joins(half, 0, limit) || !Joins(0, half, limit) || Joins(half+1, 0, limit) || Splits(half, limit)) {
			t.Errorf("two of %d keys at the limit %d", half, limit)
		}
	}
	for low := 0; low <= 66; low += 3 {
		for high := 0; high <= 66; high += 3 {
			for rate := 0; rate <= 1100; rate += 11 {
				limit := Limit(rate, low, high)
				a := limit / 4
				b := limit/2 - a
				if !Joins(a, b, limit) || Joins(a, b+1, limit) || Splits(a+b, limit) || Splits(a+b, Limit(rate+400, low, high)) {
					t.Fatalf("%d and %d keys, at the limit %d of the rate %d, low %d and high %d", a, b, limit, rate, low, high)
				}
			}
		}
	}
}

// 7.3: so it is of as many keys as there may ever be, and of counts below 0.
func TestJoinedIsntPartedAtEdges(t *testing.T) {
	for _, a := range edges() {
		for _, b := range edges() {
			for _, limit := range edges() {
				if a >= 1<<31 || b >= 1<<31 || !Joins(a, b, limit) {
					continue
				}
				if Splits(max(a, 0)+max(b, 0), limit) {
					t.Fatalf("of %d and %d keys, joined at the limit %d, one comes that is parted", a, b, limit)
				}
			}
		}
	}
}

// What is parted at a limit is not joined at once, both halves together, as long as the limit is none below 0.
func TestPartedIsntJoined(t *testing.T) {
	for limit := range 140 {
		for keys := range 300 {
			if Splits(keys, limit) && Joins(keys-keys/2, keys/2, limit) {
				t.Fatalf("%d keys, parted at the limit %d, are joined again", keys, limit)
			}
		}
	}
}

// Rule 6: what is answered hangs on the arguments alone.
func TestAgain(t *testing.T) {
	for _, a := range edges() {
		for _, b := range edges() {
			rate, limit, splits, joins := Rate(a, b), Limit(a, b, 7), Splits(a, b), Joins(a, 1, b)
			Rate(4080, 0)
			Limit(4080, 64, 64)
			Joins(64, 64, 64)
			if Rate(a, b) != rate || Limit(a, b, 7) != limit || Splits(a, b) != splits || Joins(a, 1, b) != joins {
				t.Errorf("%d, %d: another answer the second time", a, b)
			}
		}
	}
}
