package draw

import (
	"math"
	"slices"
	"strconv"
	"strings"
	"testing"
)

// tall is the chapter's height, told once more: a word's bits stand as a text, the lowest one last.
func tall(word uint32, levels int) int {
	s := strconv.FormatUint(uint64(word), 2)
	height := 1 + len(s) - len(strings.TrimRight(s, "1"))
	switch {
	case levels < 1:
		levels = 1
	case levels > 24:
		levels = 24
	}
	if height > levels {
		return levels
	}
	return height
}

// bitRow is a word, bit by bit, from the lowest one on: here nothing falls out but what is left out by the chapter's words.
type bitRow [32]bool

func bitsOf(word uint32) bitRow {
	var b bitRow
	for i := range b {
		b[i] = word%2 == 1
		word /= 2
	}
	return b
}

func (b bitRow) word() uint32 {
	var word uint32
	for i := range b {
		word *= 2
		if b[31-i] {
			word++
		}
	}
	return word
}

// one is the bits, made one with themselves, shifted left by so many; right, if they are fewer than 0.
func (b bitRow) one(left int) bitRow {
	var c bitRow
	for i := range b {
		c[i] = b[i]
		if at := i - left; at >= 0 && at < 32 && b[at] {
			c[i] = !c[i]
		}
	}
	return c
}

// behind is the chapter's word behind another one, told once more.
func behind(word uint32) uint32 {
	return bitsOf(word).one(13).one(-17).one(5).word()
}

// ahead is the word which a word is behind: each of the chapter's steps is undone, the last one first.
func ahead(word uint32) uint32 {
	b := bitsOf(word)
	for i := 5; i < 32; i++ {
		b[i] = b[i] != b[i-5]
	}
	for i := 14; i >= 0; i-- {
		b[i] = b[i] != b[i+17]
	}
	for i := 13; i < 32; i++ {
		b[i] = b[i] != b[i-13]
	}
	return b.word()
}

// heights is the chapter's row, told once more.
func heights(word uint32, n, levels int) []int {
	var l []int
	if n > 1000 {
		return l
	}
	for len(l) < n {
		word = behind(word)
		l = append(l, tall(word, levels))
	}
	return l
}

// words are such of which few bits, or nearly all of them, are 1, such with a run of bits 1 at the lower end or at the upper one, and others from all over.
func words() []uint32 {
	l := []uint32{0, 0xffffffff, 0x55555555, 0xaaaaaaaa, 0xdeadbeef, 0x01234567, 0xfedcba98}
	for i := range 32 {
		b := uint32(1) << i
		l = append(l, b, b-1, b+1, ^b, ^(b - 1), ^(b + 1), 0xdeadbeef<<i, 0xdeadbeef<<i|(b-1), 0xdeadbeee<<i|(b-1))
	}
	for i := range uint32(300) {
		l = append(l, i, ^i, i*0x9e3779b9)
	}
	slices.Sort(l)
	return slices.Compact(l)
}

// bounds are levels within the bounds, at them, and beyond.
func bounds() []int {
	l := []int{math.MinInt, math.MinInt + 1, -1 << 32, -1<<32 + 5, math.MinInt32, -24, -1, 25, 26, 31, 32, 33, 34, 64, 256, 1000, math.MaxInt32, 1 << 32, 1<<32 + 5, math.MaxInt - 1, math.MaxInt}
	for n := range 25 {
		l = append(l, n)
	}
	return l
}

// 10.1: heights that were worked out by hand, the chapter's example ahead of them.
func TestHeight(t *testing.T) {
	for _, x := range []struct {
		word         uint32
		levels, want int
	}{
		{3, 24, 3},
		// The lowest bit is 0.
		{0, 24, 1}, {0, 1, 1}, {0, 2, 1}, {2, 24, 1}, {4, 24, 1}, {6, 24, 1}, {0xfffffffe, 24, 1}, {0x80000000, 24, 1}, {0xaaaaaaaa, 24, 1}, {0x7ffffffe, 2, 1},
		// All bits are 1, from the lowest one on up to some bit.
		{1, 24, 2}, {7, 24, 4}, {15, 24, 5}, {0xff, 24, 9}, {0xffff, 24, 17}, {0x1fffff, 24, 22}, {0x3fffff, 24, 23}, {0x7fffff, 24, 24}, {0xffffff, 24, 24}, {0x1ffffff, 24, 24}, {0x7fffffff, 24, 24}, {0xffffffff, 24, 24},
		// Bits 1 above a bit 0 don't count.
		{5, 24, 2}, {9, 24, 2}, {11, 24, 3}, {13, 24, 2}, {0xfffffffd, 24, 2}, {0xfffffffb, 24, 3}, {0xffff7fff, 24, 16}, {0xffbfffff, 24, 23}, {0xffdfffff, 24, 22}, {0xff7fffff, 24, 24}, {0x55555555, 24, 2}, {0x80000001, 24, 2}, {0xdeadbeef, 24, 5}, {0xdeadbeef, 4, 4}, {0xdeadbeef, 5, 5}, {0xdeadbeef, 6, 5},
		// A run is one shorter than the levels (so high that no bound is needed), as long, and longer.
		{3, 3, 3}, {7, 3, 3}, {15, 3, 3}, {1, 3, 2}, {0, 3, 1}, {0x3fffff, 23, 23}, {0x7fffff, 23, 23}, {0xffffff, 23, 23}, {0x1fffff, 23, 22}, {1, 2, 2}, {3, 2, 2}, {7, 2, 2}, {0xffffffff, 2, 2}, {0xffffffff, 3, 3}, {0xffffffff, 22, 22}, {0xffffffff, 23, 23},
		// Fewer levels than 1 count as 1, more than 24 as 24.
		{0, 0, 1}, {1, 1, 1}, {1, 0, 1}, {1, -1, 1}, {3, 1, 1}, {3, 0, 1}, {3, -3, 1}, {0xffffffff, 1, 1}, {0xffffffff, 0, 1}, {0xffffffff, -1, 1}, {0xffffffff, -24, 1}, {0xffffffff, math.MinInt, 1}, {0, math.MinInt, 1},
		{0x3fffff, 25, 23}, {0x7fffff, 25, 24}, {0xffffff, 25, 24}, {0x1ffffff, 25, 24}, {0x1ffffff, 26, 24}, {0xffffffff, 25, 24}, {0xffffffff, 32, 24}, {0xffffffff, 33, 24}, {0xffffffff, 34, 24}, {0xffffffff, 1000, 24}, {0xffffffff, 1 << 32, 24}, {0xffffffff, math.MaxInt, 24}, {3, math.MaxInt, 3}, {0, math.MaxInt, 1},
	} {
		if h := Height(x.word, x.levels); h != x.want {
			t.Errorf("Height(%08x, %d) = %d, not %d", x.word, x.levels, h, x.want)
		}
	}
}

// 10.1: words of all kinds, at all levels and beyond, and all words of 16 bits, held against the chapter's words.
func TestHeightByTheWords(t *testing.T) {
	for _, levels := range bounds() {
		for _, word := range words() {
			if h, want := Height(word, levels), tall(word, levels); h != want {
				t.Fatalf("Height(%08x, %d) = %d, not %d", word, levels, h, want)
			}
		}
	}
	for word := range uint32(1 << 16) {
		for _, levels := range []int{1, 2, 8, 16, 17, 24} {
			for _, w := range []uint32{word, word<<16 | 0xffff} {
				if h, want := Height(w, levels), tall(w, levels); h != want {
					t.Fatalf("Height(%08x, %d) = %d, not %d", w, levels, h, want)
				}
			}
		}
	}
}

// 10.1: words that were worked out elsewhere, the chapter's example among them.
func TestNext(t *testing.T) {
	for word, want := range map[uint32]uint32{
		1:          270369,
		0:          0,
		2:          0x00084042,
		3:          0x000c6063,
		0x00001000: 0x42023100,
		0x00001fff: 0x7c003e00,
		0x00002000: 0x84046200,
		0x0000ffff: 0xe01d1000,
		0x0001ffff: 0xc03e0000,
		0x00020000: 0x40462021,
		0x00040000: 0x808c4042,
		// Here the first shift to the left leaves bits out.
		0x00080000: 0x01080084,
		0x00100000: 0x02100108,
		0x04000000: 0x84004200,
		0x07ffffff: 0xf80c1c1f,
		0x08000000: 0x08008400,
		0x10000000: 0x10010800,
		0x40000000: 0x40042000,
		0x7fffffff: 0x800ba01f,
		0x80000000: 0x80084000,
		0xc0000000: 0xc00c6000,
		0xf8000000: 0xf80ffc00,
		0xfff80000: 0x00f7807c,
		0xffff0000: 0xe01ef01f,
		0xfffffffe: 0x0007c03e,
		0xffffffff: 0x0003e01f,
		0x55555555: 0x000edfea,
		0xaaaaaaaa: 0x000d3ff5,
		0x12345678: 0x87985aa5,
		0x92d68ca2: 0x2b1f4d63,
		0xdeadbeef: 0x477d20b7,
		// Behind these stand words of long runs.
		0x5e6cfce7: 0xffffffff,
		0x5114fb27: 0x007fffff,
		0xd9d0ff07: 0x003fffff,
		0x4fe4f4a7: 0xff7fffff,
	} {
		if w := Next(word); w != want {
			t.Errorf("Next(%08x) = %08x, not %08x", word, w, want)
		}
	}
}

// 10.1: words of all kinds, and rows of words, each behind the one ahead of it, held against the chapter's words.
func TestNextByTheWords(t *testing.T) {
	for _, word := range words() {
		for range 50 {
			if w, want := Next(word), behind(word); w != want {
				t.Fatalf("Next(%08x) = %08x, not %08x", word, w, want)
			}
			word = Next(word)
		}
	}
}

// 10.1: rows that were worked out elsewhere.
func TestRow(t *testing.T) {
	for _, x := range []struct {
		word   uint32
		levels int
		want   []int
	}{
		{1, 24, []int{2, 2, 2, 5, 2, 1, 1, 1, 2, 1, 3, 4, 1, 1, 2, 2, 1, 1, 2, 2}},
		{2, 24, []int{1, 1, 1, 1, 1, 3, 2, 1, 1, 3, 1, 2, 2, 1, 1, 1, 7, 10, 2, 3}},
		{3, 24, []int{3, 3, 4, 2, 3, 3, 3, 1, 5, 5, 2, 1, 3, 1, 3, 5, 4, 4, 1, 1}},
		{0x92d68ca2, 24, []int{3, 1, 1, 1, 2, 1, 1, 2, 4, 2, 2, 2, 1, 1, 1, 1, 2, 1, 1, 4}},
		{0xdeadbeef, 24, []int{4, 1, 1, 3, 1, 3, 1, 3, 1, 2, 1, 1, 3, 3, 1, 2, 1, 3, 1, 4}},
		{0x80000000, 24, []int{1, 1, 1, 1, 2, 1, 1, 1, 4, 6, 1, 3, 7, 2, 3, 3, 1, 3, 2, 1}},
		{0, 24, []int{1, 1, 1, 1, 1}},
		// The first height is that of the word behind: the words' own would be 24, 1, 1, 6, 7 and 4.
		{0xffffffff, 24, []int{6, 10, 3, 1, 2, 1, 1, 3, 1, 5}},
		{16, 24, []int{2}},
		{30, 24, []int{11}},
		{31, 24, []int{1}},
		{63, 24, []int{1}},
		{39, 24, []int{2}},
		// Few levels, and such that are out of bounds.
		{3, 1, []int{1, 1, 1, 1, 1, 1, 1, 1, 1, 1}},
		{3, 2, []int{2, 2, 2, 2, 2, 2, 2, 1, 2, 2, 2, 1, 2, 1, 2, 2, 2, 2, 1, 1}},
		{3, 3, []int{3, 3, 3, 2, 3, 3, 3, 1, 3, 3, 2, 1, 3, 1, 3, 3, 3, 3, 1, 1}},
		{3, 4, []int{3, 3, 4, 2, 3, 3, 3, 1, 4, 4, 2, 1, 3, 1, 3, 4, 4, 4, 1, 1}},
		{3, 0, []int{1, 1, 1, 1, 1}},
		{3, -7, []int{1, 1, 1, 1, 1}},
		{0xffffffff, math.MinInt, []int{1, 1, 1}},
		{0x5e6cfce7, 22, []int{22, 6, 10}},
		{0x5e6cfce7, 23, []int{23, 6, 10}},
		{0x5e6cfce7, 24, []int{24, 6, 10}},
		{0x5e6cfce7, 25, []int{24, 6, 10}},
		{0x5e6cfce7, 33, []int{24, 6, 10}},
		{0x5e6cfce7, math.MaxInt, []int{24, 6, 10}},
		{0xd9d0ff07, 24, []int{23, 11, 1}},
		{0x4fe4f4a7, 1000, []int{24, 6, 3}},
	} {
		if l := Row(x.word, len(x.want), x.levels); !slices.Equal(l, x.want) {
			t.Errorf("Row(%08x, %d, %d) = %d, not %d", x.word, len(x.want), x.levels, l, x.want)
		}
	}
}

// 10.1: how many heights there are: none below 0, as many as are asked for from 0 to 1000, none above.
func TestRowLength(t *testing.T) {
	for _, word := range []uint32{0, 1, 3, 0xffffffff} {
		for _, levels := range []int{-1, 1, 24, 25} {
			for _, n := range []int{0, 1, 2, 3, 10, 24, 31, 32, 33, 500, 998, 999, 1000} {
				if l := Row(word, n, levels); len(l) != n {
					t.Errorf("Row(%08x, %d, %d) has %d heights", word, n, levels, len(l))
				}
			}
			for _, n := range []int{-1, -2, -24, -999, -1000, -1001, -1 << 31, -1 << 32, -1<<32 + 5, math.MinInt + 1, math.MinInt, 1001, 1002, 1024, 2000, 4096, 65536, 1 << 31, 1 << 32, 1<<32 + 5, 1 << 62, math.MaxInt - 1, math.MaxInt} {
				// A row without a bound is told at 1001, ahead of those for which no machine has room.
				if l := Row(word, n, levels); len(l) != 0 {
					t.Fatalf("Row(%08x, %d, %d) has %d heights", word, n, levels, len(l))
				}
			}
		}
	}
}

// 10.1: the ends and the sums of the longest rows, that were worked out elsewhere.
func TestLongRow(t *testing.T) {
	for _, x := range []struct {
		word              uint32
		sum, highest, hit int
		end               []int
	}{
		{1, 2013, 10, 296, []int{1, 3, 1, 1, 1, 1, 3, 1, 1, 4}},
		{0xdeadbeef, 2006, 10, 355, []int{1, 1, 2, 2, 1, 2, 1, 2, 2, 1}},
		{0xffffffff, 2057, 16, 186, []int{1, 2, 3, 1, 2, 1, 3, 2, 2, 2}},
	} {
		l := Row(x.word, 1000, 24)
		if len(l) != 1000 {
			t.Errorf("Row(%08x, 1000, 24) has %d heights", x.word, len(l))
			continue
		}
		sum := 0
		for _, h := range l {
			sum += h
		}
		if highest := slices.Max(l); sum != x.sum || highest != x.highest || slices.Index(l, highest) != x.hit || !slices.Equal(l[990:], x.end) {
			t.Errorf("Row(%08x, 1000, 24): sum %d, highest %d at %d, end %d", x.word, sum, highest, slices.Index(l, highest), l[990:])
		}
	}
}

// 10.1: rows of words of all kinds, held against the chapter's words.
func TestRowByTheWords(t *testing.T) {
	for i, word := range words() {
		for _, n := range []int{-5, 0, 1, 2, 7, 40} {
			for _, levels := range []int{-3, 0, 1, 2, 5, 23, 24, 25, 1000} {
				if l, want := Row(word, n, levels), heights(word, n, levels); !slices.Equal(l, want) {
					t.Fatalf("Row(%08x, %d, %d) = %d, not %d", word, n, levels, l, want)
				}
			}
		}
		if i%16 == 0 {
			for n := 999; n <= 1001; n++ {
				if l, want := Row(word, n, 24), heights(word, n, 24); !slices.Equal(l, want) {
					t.Fatalf("Row(%08x, %d, 24) = %d, not %d", word, n, l, want)
				}
			}
		}
	}
}

// 10.1: a row goes on from the word behind the last one.
func TestRowGoesOn(t *testing.T) {
	for _, first := range []uint32{1, 3, 0xdeadbeef, 0x5e6cfce7, 0xffffffff} {
		whole := Row(first, 1000, 24)
		word := first
		for i := range 1000 {
			if l := Row(word, 1000-i, 24); !slices.Equal(l, whole[i:]) {
				t.Fatalf("Row(%08x, %d, 24) isn't the end of Row(%08x, 1000, 24)", word, 1000-i, first)
			}
			if l := Row(first, i, 24); !slices.Equal(l, whole[:i]) {
				t.Fatalf("Row(%08x, %d, 24) isn't the beginning of Row(%08x, 1000, 24)", first, i, first)
			}
			word = Next(word)
			if h := Height(word, 24); h != whole[i] {
				t.Fatalf("Row(%08x, 1000, 24): %d at %d, not %d", first, whole[i], i, h)
			}
		}
	}
}

// above answers how many of the words that were counted by their heights have one above a height.
func above(met [40]int, height int) int {
	n := 0
	for h := height + 1; h < len(met); h++ {
		n += met[h]
	}
	return n
}

// 10.2: of all words that are less than a power of two, how many have a height above 1, above 2, and so on, as far as a half of them is a whole number, and as there are levels.
func TestHalves(t *testing.T) {
	var met [40]int
	power := 0
	for word := range uint32(1 << 24) {
		h := Height(word, 24)
		if h < 1 || h > 24 {
			t.Fatalf("Height(%08x, 24) = %d", word, h)
		}
		met[h]++
		if word+1 != 1<<power {
			continue
		}
		for height := range 25 {
			want := 0
			if height == 0 {
				want = 1 << power
			} else if height <= power && height < 24 {
				want = 1 << (power - height)
			}
			if n := above(met, height); n != want {
				t.Errorf("below 2 to the %d, %d words have a height above %d, not %d", power, n, height, want)
			}
		}
		power++
	}
	if power != 25 {
		t.Errorf("counted below %d powers of two", power)
	}
}

// 10.2: so it is at fewer levels, up to these.
func TestHalvesAtFewLevels(t *testing.T) {
	for levels := 1; levels <= 17; levels++ {
		var met [40]int
		for word := range uint32(1 << 16) {
			met[Height(word, levels)]++
		}
		for height := 1; height <= 17; height++ {
			want := 0
			if height < levels {
				want = 1 << (16 - height)
			}
			if n := above(met, height); n != want {
				t.Errorf("at %d levels, %d words of 16 bits have a height above %d, not %d", levels, n, height, want)
			}
		}
	}
}

// many are words that stand side by side, at the beginning, in the middle and at the end, and such as are alike in their lower half, or in their upper one.
func many() []uint32 {
	l := words()
	for i := range uint32(1 << 16) {
		l = append(l, i, 0x7fff8000+i, 0xffffffff-i, i<<16|0x5555, i*0x9e3779b9)
	}
	slices.Sort(l)
	return slices.Compact(l)
}

// 10.2: unlike words have unlike words behind them: of many words, each is found again from the one behind it.
func TestUnlike(t *testing.T) {
	from := map[uint32]uint32{}
	for _, word := range many() {
		next := Next(word)
		if old, ok := from[next]; ok {
			t.Fatalf("Next answers %08x of both %08x and %08x", next, old, word)
		}
		from[next] = word
		if back := ahead(next); back != word {
			t.Fatalf("Next(%08x) = %08x, which is behind %08x", word, next, back)
		}
		if w := Next(ahead(word)); w != word {
			t.Fatalf("%08x stands behind %08x, but Next of it is %08x", word, ahead(word), w)
		}
	}
}

// 10.2: why it holds for all words: what is behind two words made one is what is behind each, made one; and of the words behind those of a single bit, none is some of the others made one.
func TestSingleBits(t *testing.T) {
	l := words()
	for i, a := range l {
		for _, b := range l[i:] {
			if Next(a^b) != Next(a)^Next(b) {
				t.Fatalf("Next(%08x) = %08x, not %08x", a^b, Next(a^b), Next(a)^Next(b))
			}
		}
	}
	var led [32]uint32 // by its highest bit, a word made of such as are behind single bits
	for bit := range 32 {
		w := Next(1 << bit)
		for i := 31; i >= 0; i-- {
			if w>>i&1 == 0 {
				continue
			}
			if led[i] == 0 {
				led[i] = w
				w = 0
				break
			}
			w ^= led[i]
			if w == 0 {
				t.Fatalf("what is behind the bit %d is what is behind others, made one", bit)
			}
		}
	}
}

// Rule 4: what is handed out is new memory, spare room included: whoever writes there changes no other answer.
func TestRowsAreNew(t *testing.T) {
	for _, n := range []int{0, 1, 5, 24, 1000} {
		for _, word := range []uint32{0, 1, 0xdeadbeef} {
			want := heights(word, n, 24)
			a, b := Row(word, n, 24), Row(word, n, 24)
			for _, l := range [][]int{append(a, 77), a[:cap(a)]} {
				for i := range l {
					l[i] = -1
				}
			}
			if !slices.Equal(b, want) || !slices.Equal(Row(word, n, 24), want) {
				t.Errorf("written into Row(%08x, %d, 24), then another one is %d", word, n, b)
			}
			b = append(b, 7)
			c := append(Row(word, n, 24), 8)
			if b[n] != 7 || c[n] != 8 {
				t.Errorf("two of Row(%08x, %d, 24) share their room", word, n)
			}
		}
	}
	for _, n := range []int{-1, 1001} {
		a, b := append(Row(1, n, 24), 1), append(Row(1, n, 24), 2)
		if a[0] != 1 || b[0] != 2 {
			t.Errorf("two of Row(1, %d, 24) share their room", n)
		}
	}
}

// Rule 6: the same answers again, whatever was called meanwhile.
func TestSameAgain(t *testing.T) {
	for _, word := range words() {
		next, height, row := Next(word), Height(word, 24), Row(word, 10, 24)
		Next(^word)
		Height(^word, 3)
		Row(^word, 20, 3)
		if Next(word) != next || Height(word, 24) != height || !slices.Equal(Row(word, 10, 24), row) {
			t.Fatalf("%08x: other answers the second time", word)
		}
	}
}

// The chapter's examples.
func TestExamples(t *testing.T) {
	if h := Height(3, 24); h != 3 {
		t.Errorf("Height(3, 24) = %d", h)
	}
	if w := Next(1); w != 270369 {
		t.Errorf("Next(1) = %d", w)
	}
}
