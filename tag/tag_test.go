package tag

import (
	"math"
	"math/big"
	"slices"
	"testing"
)

// greatest is the greatest handle, and greatestWord the greatest word; both worked out outside the program.
const (
	greatest     = 1073741823
	greatestWord = 2305843010287435775
)

// sum is a*by, b and c, together, without a bound.
func sum(a, by, b, c int) *big.Int {
	s := new(big.Int).Mul(big.NewInt(int64(a)), big.NewInt(int64(by)))
	s.Add(s, big.NewInt(int64(b)))
	return s.Add(s, big.NewInt(int64(c)))
}

// apart tells how often a number holds another one, and what is left of it: never less than 0.
func apart(n *big.Int, by int) (times *big.Int, left int) {
	times, rest := new(big.Int).DivMod(n, big.NewInt(int64(by)), new(big.Int))
	return times, int(rest.Int64())
}

// within tells whether a number is from 0 to the most.
func within(n *big.Int, most int) bool {
	return n.Sign() >= 0 && n.Cmp(big.NewInt(int64(most))) <= 0
}

// wantHandle is the chapter's handle, told once more: the generation times 65536, the place, and 1.
func wantHandle(place, gen int) int {
	if !within(big.NewInt(int64(place)), 65534) || !within(big.NewInt(int64(gen)), 16383) {
		return 0
	}
	return int(sum(gen, 65536, place, 1).Int64())
}

// wantParts is what a handle is put together of, told once more: by a division of what stands below the 1.
func wantParts(h int) (place, gen int, right bool) {
	times, left := apart(sum(h, 1, -1, 0), 65536)
	if !within(times, 16383) || left > 65534 {
		return -1, -1, false
	}
	return left, int(times.Int64()), true
}

// wantWord is the chapter's word, told once more: the version times 2^31, and the handle, or 0.
func wantWord(h, version int) int {
	_, _, right := wantParts(h)
	if h != 0 && !right || !within(big.NewInt(int64(version)), 1073741824) {
		return -1
	}
	return int(sum(version, 2147483648, h, 0).Int64())
}

// wantStamp is a word's version, told once more: by a division.
func wantStamp(w int) int {
	times, left := apart(big.NewInt(int64(w)), 2147483648)
	_, _, right := wantParts(left)
	if left != 0 && !right || !within(times, 1073741824) {
		return -1
	}
	return int(times.Int64())
}

// wantTo is a word's handle, told once more: what a division leaves, whatever the version would be.
func wantTo(w int) int {
	_, left := apart(big.NewInt(int64(w)), 2147483648)
	if _, _, right := wantParts(left); w < 0 || !right {
		return 0
	}
	return left
}

// edges are numbers round about which answers change: powers of two, what is one and two beside them, their sums of two, and all of these below 0.
func edges() []int {
	row := []int{0, math.MaxInt, math.MaxInt - 1, math.MinInt, math.MinInt + 1}
	for i := range 63 {
		for _, beside := range []int{-2, -1, 0, 1, 2} {
			row = append(row, 1<<i+beside)
		}
		for j := range i {
			row = append(row, 1<<i+1<<j, 1<<i-1<<j, 1<<i+1<<j-1)
		}
	}
	for _, n := range slices.Clone(row) {
		row = append(row, -n)
	}
	row = append(row, greatest-1, greatest, greatest+1, greatest+65536, greatestWord-1, greatestWord, greatestWord+1)
	for _, gen := range []int{0, 1, 2, 8191, 8192, 16382, 16383, 16384, 16385, 32767} {
		for beside := -3; beside <= 3; beside++ {
			row = append(row, gen*65536+beside)
		}
	}
	for _, version := range []int{0, 1, 2, 1<<29 + 5, 1<<30 - 1, 1 << 30, 1<<30 + 1, 1 << 31} {
		for _, low := range []int{0, 1, 65535, 65536, 65537, 131072, greatest - 1, greatest, greatest + 1, 1<<30 + 65536, 1<<31 - 65536, 1<<31 - 1} {
			row = append(row, version<<31+low)
		}
	}
	slices.Sort(row)
	return slices.Compact(row)
}

// someHandles are handles of places and generations at the edges, and some between.
func someHandles() []int {
	var row []int
	for _, gen := range []int{0, 1, 2, 255, 256, 5461, 8191, 8192, 10922, 16382, 16383} {
		for _, place := range []int{0, 1, 2, 255, 256, 21845, 32767, 32768, 43690, 65533, 65534} {
			row = append(row, gen*65536+place+1)
		}
	}
	return row
}

// someVersions are versions at the edges, and some between.
func someVersions() []int {
	row := []int{0, 3, 5, 1000, 357913941, 715827882, 1073741823}
	for i := range 31 {
		row = append(row, 1<<i)
	}
	return row
}

// handles are places, generations, and handles worked out outside the program.
var handles = []struct{ place, gen, h int }{
	{0, 0, 1},
	{1, 0, 2},
	{65534, 0, 65535},
	{0, 1, 65537},
	{65533, 1, 131070},
	{65534, 1, 131071},
	{4660, 11068, 725357109},
	{12345, 678, 44445754},
	{32767, 8191, 536838144},
	{0, 16383, 1073676289},
	{65534, 16383, greatest},
}

// 11.1: a place and a generation give a handle, which gives them back.
func TestHandles(t *testing.T) {
	for _, c := range handles {
		if h := Handle(c.place, c.gen); h != c.h {
			t.Errorf("Handle(%d, %d) = %d, want %d", c.place, c.gen, h, c.h)
		}
		if !Right(c.h) || Place(c.h) != c.place || Gen(c.h) != c.gen {
			t.Errorf("of %d: %v, %d, %d, want true, %d, %d", c.h, Right(c.h), Place(c.h), Gen(c.h), c.place, c.gen)
		}
	}
}

// 11.1: another place or generation than those that there are gives 0, also where sums would make a handle of them.
func TestNoHandle(t *testing.T) {
	for _, c := range [][2]int{
		{-1, 0}, {-1, 1}, {-1, -1}, {-1, 16383}, {0, -1}, {65534, -1}, {65535, 0}, {65535, 16383}, {65536, 0}, {65535, -1},
		{0, 16384}, {65534, 16384}, {-1, 16384}, {65535, 16384}, {65536, -1}, {-65536, 1}, {-65536, 2}, {0, 32768}, {0, 1 << 48}, {0, 1<<48 + 1}, {5, 1 << 62}, {1 << 32, 0}, {1<<32 + 5, 0},
		{math.MinInt, 0}, {math.MaxInt, 0}, {0, math.MinInt}, {0, math.MaxInt},
		{math.MinInt, math.MinInt}, {math.MinInt, math.MaxInt}, {math.MaxInt, math.MinInt}, {math.MaxInt, math.MaxInt},
	} {
		if h := Handle(c[0], c[1]); h != 0 {
			t.Errorf("Handle(%d, %d) = %d, want 0", c[0], c[1], h)
		}
	}
}

// 11.1: another number than a handle is not right, and has place and generation -1.
func TestNotRight(t *testing.T) {
	for _, h := range []int{
		0, -1, -2, -65535, -65536, -65537, -greatest, math.MinInt, math.MinInt + 1,
		65536, 131072, 196608, 16383 * 65536, 16384 * 65536, 16385 * 65536, 1 << 40, 1 << 62,
		greatest + 1, greatest + 2, greatest + 65536, 1<<31 - 1, 1 << 31, 1<<31 + 1, 1<<32 + 1, 1<<48 + 1, 1<<62 + 1, math.MaxInt - 1, math.MaxInt,
	} {
		if Right(h) || Place(h) != -1 || Gen(h) != -1 {
			t.Errorf("of %d: %v, %d, %d, want false, -1, -1", h, Right(h), Place(h), Gen(h))
		}
	}
}

// 11.1: all numbers at the edges are told apart as the chapter's words tell them, and so are all pairs of them put together.
func TestHandlesByWords(t *testing.T) {
	row := edges()
	for _, h := range row {
		place, gen, right := wantParts(h)
		if Right(h) != right || Place(h) != place || Gen(h) != gen {
			t.Errorf("of %d: %v, %d, %d, want %v, %d, %d", h, Right(h), Place(h), Gen(h), right, place, gen)
		}
	}
	few := []int{math.MinInt, math.MinInt + 1, -65536, -16384, -2, -1, 0, 1, 2, 16382, 16383, 16384, 16385, 65533, 65534, 65535, 65536, 65537, math.MaxInt - 1, math.MaxInt}
	for _, n := range row {
		for _, m := range few {
			if got, want := Handle(n, m), wantHandle(n, m); got != want {
				t.Errorf("Handle(%d, %d) = %d, want %d", n, m, got, want)
			}
			if got, want := Handle(m, n), wantHandle(m, n); got != want {
				t.Errorf("Handle(%d, %d) = %d, want %d", m, n, got, want)
			}
		}
	}
}

// 11.1: of all numbers round about the first and the last generations just those are handles that Handle makes, in their order.
func TestHandlesInARow(t *testing.T) {
	for _, gen := range []int{0, 1, 2, 8192, 16382, 16383} {
		h := gen * 65536
		if Right(h) {
			t.Errorf("%d is right", h)
		}
		for place := range 65535 {
			h++
			if got := Handle(place, gen); got != h || !Right(h) || Place(h) != place || Gen(h) != gen {
				t.Fatalf("Handle(%d, %d) = %d, want %d, of which %v, %d, %d is told", place, gen, got, h, Right(h), Place(h), Gen(h))
			}
		}
	}
	for gen := range 16384 {
		for _, place := range []int{0, 1, 32768, 65534} {
			h := Handle(place, gen)
			if want := gen*65536 + place + 1; h != want || !Right(h) || Place(h) != place || Gen(h) != gen {
				t.Fatalf("Handle(%d, %d) = %d, want %d, of which %v, %d, %d is told", place, gen, h, want, Right(h), Place(h), Gen(h))
			}
		}
	}
}

// words are handles, versions, and words worked out outside the program.
var words = []struct{ h, version, w int }{
	{0, 0, 0},
	{1, 0, 1},
	{0, 1, 2147483648},
	{1, 1, 2147483649},
	{1, 2, 4294967297},
	{2, 1, 2147483650},
	{65537, 3, 6442516481},
	{44445754, 1000, 2147528093754},
	{greatest, 0, 1073741823},
	{greatest, 1, 3221225471},
	{greatest, 1073741823, 2305843008139952127},
	{0, 1073741824, 2305843009213693952},
	{1, 1073741824, 2305843009213693953},
	{greatest, 1073741824, greatestWord},
}

// 11.2: a handle, or 0, and a version give a word, which gives them back.
func TestWords(t *testing.T) {
	for _, c := range words {
		if w := Word(c.h, c.version); w != c.w {
			t.Errorf("Word(%d, %d) = %d, want %d", c.h, c.version, w, c.w)
		}
		if Stamp(c.w) != c.version || To(c.w) != c.h {
			t.Errorf("of %d: %d, %d, want %d, %d", c.w, Stamp(c.w), To(c.w), c.version, c.h)
		}
	}
}

// 11.2: another number than a handle or 0, or another version, gives -1.
func TestNoWord(t *testing.T) {
	versions := []int{-1, 0, 1, 1073741824, 1073741825, -1073741824, 1 << 31, 1 << 33, 1 << 62, math.MinInt, math.MaxInt}
	wrong := []int{-1, -65536, 65536, 131072, 16383 * 65536, greatest + 1, greatest + 2, 1<<31 - 1, 1 << 31, 1<<31 + 1, 1 << 62, math.MinInt, math.MinInt + 1, math.MaxInt}
	for _, version := range versions {
		for _, h := range wrong {
			if w := Word(h, version); w != -1 {
				t.Errorf("Word(%d, %d) = %d, want -1", h, version, w)
			}
		}
		if version >= 0 && version <= 1073741824 {
			continue
		}
		for _, h := range []int{0, 1, 65535, 65537, greatest} {
			if w := Word(h, version); w != -1 {
				t.Errorf("Word(%d, %d) = %d, want -1", h, version, w)
			}
		}
	}
}

// 11.2: of other numbers than words Stamp tells -1; To tells the handle that their lowest bits are, if these are one and the number isn't below 0.
func TestNotWords(t *testing.T) {
	for _, c := range []struct{ w, stamp, to int }{
		{-1, -1, 0},
		{-2147483647, -1, 0},
		{-2147483648, -1, 0},
		{-4294967295, -1, 0},
		{math.MinInt, -1, 0},
		{math.MinInt + 1, -1, 0},
		{65536, -1, 0},
		{131072, -1, 0},
		{16383 * 65536, -1, 0},
		{greatest + 1, -1, 0},
		{greatest + 2, -1, 0},
		{2147483647, -1, 0},
		{2147483648 + 65536, -1, 0},
		{2147483648 + greatest + 1, -1, 0},
		{4294967295, -1, 0},
		{greatestWord + 1, -1, 0},
		{greatestWord + 2, -1, 0},
		{2305843009213693952 + 65536, -1, 0},
		{2305843009213693952 + 2147483647, -1, 0},
		{2305843009213693952 + 2147483648, -1, 0},
		{2305843009213693952 + 2147483648 + 1, -1, 1},
		{2305843009213693952 + 2147483648 + 44445754, -1, 44445754},
		{2305843009213693952 + 2147483648 + greatest, -1, greatest},
		{1 << 62, -1, 0},
		{1<<62 + 1, -1, 1},
		{1<<62 + greatest, -1, greatest},
		{math.MaxInt - 2147483647 + 65535, -1, 65535},
		{math.MaxInt - greatest - 1, -1, greatest},
		{math.MaxInt - 1, -1, 0},
		{math.MaxInt, -1, 0},
	} {
		if Stamp(c.w) != c.stamp || To(c.w) != c.to {
			t.Errorf("of %d: %d, %d, want %d, %d", c.w, Stamp(c.w), To(c.w), c.stamp, c.to)
		}
	}
}

// 11.2: all numbers at the edges are told apart as the chapter's words tell them, and so are all pairs of them put together.
func TestWordsByWords(t *testing.T) {
	row := edges()
	for _, w := range row {
		if Stamp(w) != wantStamp(w) || To(w) != wantTo(w) {
			t.Errorf("of %d: %d, %d, want %d, %d", w, Stamp(w), To(w), wantStamp(w), wantTo(w))
		}
	}
	few := []int{math.MinInt, math.MinInt + 1, -2147483648, -1, 0, 1, 2, 65535, 65536, 65537, greatest, greatest + 1, greatest + 2, 2147483647, 2147483648, math.MaxInt - 1, math.MaxInt}
	for _, n := range row {
		for _, m := range few {
			if got, want := Word(n, m), wantWord(n, m); got != want {
				t.Errorf("Word(%d, %d) = %d, want %d", n, m, got, want)
			}
			if got, want := Word(m, n), wantWord(m, n); got != want {
				t.Errorf("Word(%d, %d) = %d, want %d", m, n, got, want)
			}
		}
	}
}

// 11.2: the words of a version are just those of 0 and of the handles: round about each edge of a version's numbers.
func TestWordsInARow(t *testing.T) {
	for _, version := range []int{0, 1, 2, 536870912, 1073741823, 1073741824} {
		first := version * 2147483648
		for _, from := range []int{0, 65536 - 50, 131072 - 50, greatest - 65536 - 50, greatest - 50, 2147483648 - 100} {
			for low := from; low < from+100; low++ {
				_, _, right := wantParts(low)
				stamp, to := -1, 0
				if low == 0 || right {
					stamp, to = version, low
				}
				if w := first + low; Stamp(w) != stamp || To(w) != to {
					t.Fatalf("of %d: %d, %d, want %d, %d", w, Stamp(w), To(w), stamp, to)
				}
			}
		}
	}
}

// 11.3: what was put together is taken apart as it was.
func TestTakenApart(t *testing.T) {
	for _, h := range someHandles() {
		if again := Handle(Place(h), Gen(h)); again != h {
			t.Errorf("Handle(%d, %d) = %d, want %d", Place(h), Gen(h), again, h)
		}
	}
	for _, version := range someVersions() {
		for _, h := range append(someHandles(), 0) {
			w := Word(h, version)
			if w < 0 || Stamp(w) != version || To(w) != h {
				t.Errorf("Word(%d, %d) = %d, of which %d, %d is told", h, version, w, Stamp(w), To(w))
			}
			if again := Word(To(w), Stamp(w)); again != w {
				t.Errorf("Word(%d, %d) = %d, want %d", To(w), Stamp(w), again, w)
			}
		}
	}
}

// 11.3: words of unlike versions are unlike, whatever their handles; and so are those of unlike handles.
func TestUnlike(t *testing.T) {
	seen := map[int][2]int{}
	for _, version := range someVersions() {
		for _, h := range append(someHandles(), 0) {
			w := Word(h, version)
			if other, ok := seen[w]; ok && other != [2]int{h, version} {
				t.Fatalf("Word(%d, %d) = Word(%d, %d)", h, version, other[0], other[1])
			}
			seen[w] = [2]int{h, version}
		}
	}
}

// 11.3: the greatest word of a version is less than the least one of the version behind it: so no two versions share one.
func TestVersionsInOrder(t *testing.T) {
	for _, version := range someVersions() {
		least, most := Word(0, version), Word(greatest, version)
		if least > most {
			t.Errorf("version %d: %d is greater than %d", version, least, most)
		}
		if version < 1073741824 && most >= Word(0, version+1) {
			t.Errorf("version %d: %d isn't less than %d", version, most, Word(0, version+1))
		}
		if version > 0 && least <= Word(greatest, version-1) {
			t.Errorf("version %d: %d isn't greater than %d", version, least, Word(greatest, version-1))
		}
	}
}

// 11.1, 11.2: the greatest generation is told.
func TestMaxGen(t *testing.T) {
	if MaxGen != 16383 || Handle(0, MaxGen) == 0 || Handle(0, MaxGen+1) != 0 {
		t.Errorf("MaxGen is %d: Handle(0, MaxGen) = %d, Handle(0, MaxGen+1) = %d", MaxGen, Handle(0, MaxGen), Handle(0, MaxGen+1))
	}
}

// The chapter's examples.
func TestExamples(t *testing.T) {
	if h := Handle(0, 0); h != 1 {
		t.Errorf("Handle(0, 0) = %d, want 1", h)
	}
	if w := Word(1, 2); w != 4294967297 {
		t.Errorf("Word(1, 2) = %d, want 4294967297", w)
	}
}
