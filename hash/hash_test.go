package hash

import (
	"slices"
	"strconv"
	"strings"
	"testing"
)

// cut keeps what a failing test tells readable.
func cut(s string) string {
	if len(s) > 20 {
		return strconv.Quote(s[:20]) + ".." + strconv.Itoa(len(s))
	}
	return strconv.Quote(s)
}

// bits is a word, bit by bit, from the lowest one on: here nothing falls out but what is left out by the chapter's words.
type bits [32]bool

func bitsOf(n uint32) bits {
	var b bits
	for i := range b {
		b[i] = n%2 == 1
		n /= 2
	}
	return b
}

func (b bits) word() uint32 {
	var n uint32
	for i := range b {
		if b[31-i] {
			n = 2*n + 1
		} else {
			n = 2 * n
		}
	}
	return n
}

func (b bits) plus(a bits) bits {
	var sum bits
	carry := false
	for i := range b {
		sum[i] = (a[i] != b[i]) != carry
		carry = a[i] && b[i] || carry && (a[i] || b[i])
	}
	return sum
}

func (b bits) one(a bits) bits {
	for i := range b {
		b[i] = b[i] != a[i]
	}
	return b
}

// moved is the word shifted left by so many bits; right, if they are fewer than 0.
func (b bits) moved(n int) bits {
	var m bits
	for i := range b {
		if at := i - n; at >= 0 && at < 32 {
			m[i] = b[at]
		}
	}
	return m
}

// behind is the chapter's word behind a text, told once more.
func behind(h uint32, s string) uint32 {
	b := bitsOf(h)
	for _, c := range []byte(s) {
		b = b.plus(bitsOf(uint32(c)))
		b = b.plus(b.moved(10))
		b = b.one(b.moved(-6))
	}
	return b.word()
}

// sum is the chapter's sum of a word, told once more.
func sum(h uint32) uint32 {
	b := bitsOf(h)
	b = b.plus(b.moved(3))
	b = b.one(b.moved(-11))
	b = b.plus(b.moved(15))
	return b.word()
}

// words are words of which few bits, or nearly all of them, are 1, and others from all over.
func words() []uint32 {
	l := []uint32{0, 0xffffffff, 0x55555555, 0xaaaaaaaa, 0xdeadbeef, 0x01234567, 0xfedcba98, 0xffffff00, 0xffff0000, 0x0000ffff}
	for i := range 32 {
		b := uint32(1) << i
		l = append(l, b, b-1, b+1, ^b, ^(b - 1), ^(b + 1))
	}
	for i := range uint32(200) {
		l = append(l, i*0x9e3779b9, i, ^i)
	}
	slices.Sort(l)
	return slices.Compact(l)
}

// everyByte is a text of the 256 bytes, from 00 on.
func everyByte() string {
	var b []byte
	for c := range 256 {
		b = append(b, byte(c))
	}
	return string(b)
}

// texts are ordinary ones, of bytes below 128 and beyond, right ones and others, empty to longer than a value.
func texts() []string {
	l := []string{"", "\x00", "\x00\x00", "\x00\x00\x00\x00", "a", "b", "z", "A", "Z", "0", " ", "\n", "\x7f", "\x80", "\xfe", "\xff", "\xff\xff", "\xff\xff\xff\xff", "a\x00", "\x00a", "ab", "ba", "aa", "abc", "key", "keys", "é", "€", "\U00010348", "\ufffd", "\xe2\x82", "\xc3", "a\xff\"\n\\", "The quick brown fox jumps over the lazy dog", everyByte()}
	for _, n := range []int{3, 4, 5, 31, 32, 33, 255, 256, 257, 1023, 1024, 1025, 65536, 65537, 70001} {
		l = append(l, strings.Repeat("k", n), strings.Repeat("\xff", n), strings.Repeat("é", n/2)+"a")
	}
	return l
}

// 5.1: sums that were worked out elsewhere, the chapter's example among them.
func TestOf(t *testing.T) {
	for s, want := range map[string]uint32{
		"a": 0xca2e9442,
		"The quick brown fox jumps over the lazy dog": 0x519e91f5,
		"":                            0,
		"\x00":                        0,
		"\x00\x00":                    0,
		"b":                           0x00db819b,
		"A":                           0x820103f0,
		"\x7f":                        0xeaf3d5c4,
		"\x80":                        0x277fcedb,
		"\xff":                        0xc7b20f1d,
		"\xff\xff":                    0x1d759c3d,
		"a\x00":                       0x55f63e9c,
		"\x00a":                       0xca2e9442,
		"ab":                          0x45e61e58,
		"ba":                          0x7d6b8c42,
		"abc":                         0xed131f5b,
		"a\xff\"\n":                   0x8fd4644a,
		"é":                           0xae8600ef,
		"€":                           0x27e5714e,
		"\ufffd":                      0x08260683,
		"\xe2\x82":                    0x200dc26d,
		"\xff\xff\xff\xff":            0x21c088bc,
		everyByte():                   0xef2a46bd,
		strings.Repeat("k", 1024):     0xe5fc80f7,
		strings.Repeat("\xff", 1024):  0xe17efb88,
		strings.Repeat("\xff", 65536): 0xe9598d03,
	} {
		if h := Of(s); h != want {
			t.Errorf("Of(%s) = %08x, not %08x", cut(s), h, want)
		}
	}
}

// 5.1: words behind texts that were worked out elsewhere, from words of which bits go beyond 32.
func TestAdd(t *testing.T) {
	for _, x := range []struct {
		h    uint32
		s    string
		want uint32
	}{
		{0, "", 0},
		{0, "\x00", 0},
		{0, "a", 0x00018270},
		{0, "\xff", 0x0003f30c},
		{0, "\x80", 0x00020882},
		{0, "abc", 0x589993f5},
		{0, "é", 0x0c39400f},
		{0, everyByte(), 0x7316871a},
		{1, "", 1},
		{1, "\x00", 0x00000411},
		{0x003fffff, "\x00", 0x003f0410},
		{0x003fffff, "\x01", 0x00410000},
		{0x00400000, "\x00", 0x00410000},
		{0x80000000, "\x00", 0x82000000},
		{0x80000000, "a", 0x82018270},
		{0xdeadbeef, "abc", 0x634f9980},
		{0xffffff00, "\xff", 0xfc000410},
		{0xffffff01, "\xff", 0},
		{0xffffff9f, "a", 0},
		{0xffffffff, "", 0xffffffff},
		{0xffffffff, "\x00", 0xfc000410},
		{0xffffffff, "\x01", 0},
		{0xffffffff, "a", 0x00018661},
		{0xffffffff, "\xff", 0x0003f71d},
		{0xffffffff, "\xff\xff\xff\xff", 0x67aab7d8},
	} {
		if h := Add(x.h, x.s); h != x.want {
			t.Errorf("Add(%08x, %s) = %08x, not %08x", x.h, cut(x.s), h, x.want)
		}
	}
}

// 5.1: sums of words that were worked out elsewhere, of those of which bits go beyond 32, too.
func TestEnd(t *testing.T) {
	for h, want := range map[uint32]uint32{
		0:          0,
		1:          0x00048009,
		2:          0x00090012,
		7:          0x001f803f,
		0x7ff:      0x23ffc7ff,
		0x800:      0x2404c809,
		0xffff:     0x7f7cfee8,
		0x10000:    0x80990120,
		0x1fffffff: 0x20000008,
		0x20000000: 0x20040000,
		0x7fffffff: 0x7ff40008,
		0x80000000: 0x80100000,
		0xdeadbeef: 0x6e89b511,
		0xffff0000: 0x7f58fee0,
		0xfffffffe: 0xffe88011,
		0xffffffff: 0xffe40008,
	} {
		if e := End(h); e != want {
			t.Errorf("End(%08x) = %08x, not %08x", h, e, want)
		}
	}
}

// 5.1: each byte, and each two of them, from words of all kinds, held against the chapter's words.
func TestBytesByTheWords(t *testing.T) {
	for _, h := range words() {
		if Add(h, "") != h {
			t.Fatalf("Add(%08x, nothing) = %08x", h, Add(h, ""))
		}
		if End(h) != sum(h) {
			t.Fatalf("End(%08x) = %08x, not %08x", h, End(h), sum(h))
		}
		for c := range 256 {
			if s := string([]byte{byte(c)}); Add(h, s) != behind(h, s) {
				t.Fatalf("Add(%08x, %q) = %08x, not %08x", h, s, Add(h, s), behind(h, s))
			}
		}
	}
	for i := range 1 << 16 {
		s := string([]byte{byte(i >> 8), byte(i)})
		if want := sum(behind(0, s)); Of(s) != want {
			t.Fatalf("Of(%q) = %08x, not %08x", s, Of(s), want)
		}
	}
}

// 5.1: texts of all kinds, held against the chapter's words; bytes count, not runes.
func TestTextsByTheWords(t *testing.T) {
	for _, s := range texts() {
		for _, h := range []uint32{0, 1, 0x80000000, 0xdeadbeef, 0xffffffff} {
			if want := behind(h, s); Add(h, s) != want {
				t.Errorf("Add(%08x, %s) = %08x, not %08x", h, cut(s), Add(h, s), want)
			}
		}
		if want := sum(behind(0, s)); Of(s) != want {
			t.Errorf("Of(%s) = %08x, not %08x", cut(s), Of(s), want)
		}
	}
}

// 5.1: the word behind a text is the one behind its last part, from the one behind its first part on.
func TestParts(t *testing.T) {
	all := everyByte()
	for _, s := range []string{"", "a", "ab", "\x00\xff\x00", "a key and its value", "é€\U00010348\xff", all, all + all} {
		for _, h := range []uint32{0, 1, 0xdeadbeef, 0xffffffff} {
			whole := Add(h, s)
			step := h
			for i := range len(s) {
				if w := Add(Add(h, s[:i]), s[i:]); w != whole {
					t.Errorf("Add(%08x, %s) in parts of %d bytes and the rest: %08x, not %08x", h, cut(s), i, w, whole)
				}
				step = Add(step, s[i:i+1])
			}
			if step != whole || Add(whole, "") != whole {
				t.Errorf("Add(%08x, %s) byte by byte: %08x, not %08x", h, cut(s), step, whole)
			}
		}
		if Of(s) != End(Add(0, s)) {
			t.Errorf("Of(%s) isn't the sum of the word behind it", cut(s))
		}
	}
}

// 5.1: what is answered hangs on the arguments alone.
func TestAgain(t *testing.T) {
	for _, s := range texts() {
		again := strings.Clone(s)
		of, add, end := Of(s), Add(7, s), End(7)
		Of("another")
		if Of(again) != of || Add(7, again) != add || End(7) != end {
			t.Errorf("%s has other sums the second time", cut(s))
		}
	}
}

// alike answers two bytes that, put into a text at a place, give it one sum; false: there are none.
func alike(s string, at int) (byte, byte, bool) {
	b := []byte(s)
	seen := map[uint32]byte{}
	for c := range 256 {
		b[at] = byte(c)
		h := Of(string(b))
		if old, ok := seen[h]; ok {
			return old, byte(c), true
		}
		seen[h] = byte(c)
	}
	return 0, 0, false
}

// 5.2: texts of one length that are unlike in just one byte, at each place, the first and the last one among them.
func TestUnlikeInOneByte(t *testing.T) {
	all := everyByte()
	for _, s := range []string{"a", "ab", "\x00", "\x00\x00\x00\x00", "\xff\xff\xff\xff", "key", "a longer key", "é€\xff", all, strings.Repeat("\x00", 100), strings.Repeat("\xff", 100), strings.Repeat("k", 100)} {
		for at := range len(s) {
			if a, b, ok := alike(s, at); ok {
				t.Errorf("%s has one sum with the bytes %d and %d at %d", cut(s), a, b, at)
			}
		}
	}
}

// 5.2: so it is of texts as long as keys may be, and longer.
func TestLongUnlikeInOneByte(t *testing.T) {
	for _, n := range []int{1023, 1024, 1025, 65536} {
		for _, c := range []string{"k", "\x00", "\xff"} {
			s := strings.Repeat(c, n)
			for _, at := range []int{0, 1, n / 2, n - 2, n - 1} {
				if a, b, ok := alike(s, at); ok {
					t.Errorf("%s has one sum with the bytes %d and %d at %d", cut(s), a, b, at)
				}
			}
		}
	}
}

// many are words that stand side by side, at the beginning, in the middle and at the end, and such as are alike in their lower half.
func many() []uint32 {
	l := words()
	for i := range uint32(1 << 15) {
		l = append(l, i, 0x7fffc000+i, 0xffffffff-i, i<<16|0x5555)
	}
	slices.Sort(l)
	return slices.Compact(l)
}

// 5.2: why it holds: unlike words have unlike words behind each byte, and unlike sums.
func TestUnlikeWords(t *testing.T) {
	l := many()
	for name, f := range map[string]func(h uint32) uint32{
		"Add of 00": func(h uint32) uint32 { return Add(h, "\x00") },
		"Add of a":  func(h uint32) uint32 { return Add(h, "a") },
		"Add of ff": func(h uint32) uint32 { return Add(h, "\xff") },
		"End":       End,
	} {
		from := map[uint32]uint32{}
		for _, h := range l {
			if old, ok := from[f(h)]; ok {
				t.Errorf("%s answers %08x of both %08x and %08x", name, f(h), old, h)
			}
			from[f(h)] = h
		}
	}
}
