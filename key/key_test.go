package key

import (
	"slices"
	"strconv"
	"strings"
	"testing"

	"rundle/api"
)

// to and from are short names for spans with an end, and without one.
func to(lo, hi string) Span { return Span{Lo: lo, Hi: hi} }
func from(lo string) Span   { return Span{Lo: lo, All: true} }

// cut keeps what a failing test tells readable.
func cut(s string) string {
	if len(s) > 20 {
		return strconv.Quote(s[:20]) + ".." + strconv.Itoa(len(s))
	}
	return strconv.Quote(s)
}

func show(s Span) string {
	if s.All {
		return cut(s.Lo) + " on (Hi " + cut(s.Hi) + ")"
	}
	return cut(s.Lo) + " to " + cut(s.Hi)
}

// less is the chapter's order, told once more.
func less(a, b string) bool {
	for i := range len(b) {
		if i == len(a) || a[i] != b[i] {
			return i == len(a) || a[i] < b[i]
		}
	}
	return false
}

// lies is the chapter's lying in a span, told once more.
func lies(s Span, k string) bool { return !less(k, s.Lo) && (s.All || less(k, s.Hi)) }

// texts are all texts of at most so many of these bytes.
func texts(bytes string, most int) []string {
	l := []string{""}
	for at := 0; most > 0; most-- {
		end := len(l)
		for ; at < end; at++ {
			for i := range len(bytes) {
				l = append(l, l[at]+bytes[i:i+1])
			}
		}
	}
	return l
}

// spans are all spans of these texts, good or not, and those without an end with each Hi, too.
func spans(l []string) []Span {
	var all []Span
	for _, lo := range l {
		for _, hi := range l {
			all = append(all, Span{lo, hi, false}, Span{lo, hi, true})
		}
	}
	return all
}

// long is a text of so many bytes.
func long(n int) string { return strings.Repeat("k", n) }

// 4.1: a key has 1 to 1024 bytes, whatever they are.
func TestRight(t *testing.T) {
	if api.MaxKey != 1024 {
		t.Error("MaxKey is another")
	}
	for n, want := range map[int]bool{0: false, 1: true, 2: true, 255: true, 256: true, 257: true, 512: true, 1023: true, 1024: true, 1025: false, 1026: false, 1280: false, 2048: false, 65536: false, 65537: false, 1 << 20: false} {
		if Right(long(n)) != want {
			t.Errorf("Right of %d bytes is not %v", n, want)
		}
	}
	for c := range 256 {
		b := string([]byte{byte(c)})
		if !Right(b) || !Right(strings.Repeat(b, 1024)) || Right(strings.Repeat(b, 1025)) {
			t.Errorf("Right of texts of the byte %d", c)
		}
	}
	// Bytes count, not runes.
	if !Right(strings.Repeat("é", 512)) || Right(strings.Repeat("é", 512)+"a") || Right(strings.Repeat("€", 342)) || !Right("a\xe2\x82\n \"") {
		t.Error("Right counts other things than bytes")
	}
}

// 4.1: a value has at most 65536 bytes, whatever they are; it may have none.
func TestFits(t *testing.T) {
	if api.MaxValue != 65536 {
		t.Error("MaxValue is another")
	}
	for n, want := range map[int]bool{0: true, 1: true, 1024: true, 1025: true, 20001: true, 65534: true, 65535: true, 65536: true, 65537: false, 65538: false, 65792: false, 131072: false, 1 << 20: false} {
		if Fits(long(n)) != want {
			t.Errorf("Fits of %d bytes is not %v", n, want)
		}
	}
	for c := range 256 {
		b := string([]byte{byte(c)})
		if !Fits(b) || !Fits(strings.Repeat(b, 65536)) || Fits(strings.Repeat(b, 65537)) {
			t.Errorf("Fits of texts of the byte %d", c)
		}
	}
	if !Fits(strings.Repeat("é", 32768)) || Fits(strings.Repeat("é", 32768)+"a") || Fits(strings.Repeat("€", 21846)) {
		t.Error("Fits counts other things than bytes")
	}
}

// 4.1: the text behind a text, also behind the longest key, and beyond it.
func TestAfter(t *testing.T) {
	for _, k := range []string{"", "\x00", "a", "a\x00", "a\x00\x00", "ab", "z", "\x7f", "é", "\xfe", "\xff", "\xff\xff", "a\xff", long(1023), long(1024), long(1025), long(65536), strings.Repeat("\xff", 1024)} {
		if s := After(k); s != k+"\x00" {
			t.Errorf("After(%s) = %s", cut(k), cut(s))
		}
	}
	for c := range 256 {
		if s := After(string([]byte{byte(c)})); s != string([]byte{byte(c), 0}) {
			t.Errorf("After of the byte %d = %q", c, s)
		}
	}
}

// 4.1: of all texts, the least that is greater.
func TestAfterIsLeast(t *testing.T) {
	l := texts("\x00\x01a\xff", 4)
	for _, k := range texts("\x00\x01a\xff", 3) {
		s := After(k)
		if !less(k, s) {
			t.Errorf("After(%q) = %q isn't greater", k, s)
		}
		for _, x := range l {
			if less(k, x) && less(x, s) {
				t.Errorf("After(%q) = %q, but %q is less", k, s, x)
			}
		}
	}
}

// 4.1, 4.2: up to the text behind k, from k on, there is k and nothing else.
func TestSpanOfOneText(t *testing.T) {
	l := texts("\x00a\xff", 4)
	for _, k := range texts("\x00a\xff", 3) {
		s := to(k, After(k))
		if !Good(s) || Empty(s) {
			t.Errorf("the span of %q alone: Good %v, Empty %v", k, Good(s), Empty(s))
		}
		for _, x := range l {
			if Has(s, x) != (x == k) {
				t.Errorf("the span of %q alone has %q: %v", k, x, Has(s, x))
			}
		}
	}
}

// 4.2: all texts lie in the whole span.
func TestWhole(t *testing.T) {
	if Whole() != (Span{Lo: "", Hi: "", All: true}) {
		t.Errorf("Whole = %s", show(Whole()))
	}
	if !Good(Whole()) || Empty(Whole()) {
		t.Error("the whole span isn't good, or is empty")
	}
	for _, k := range append(texts("\x00a\xff", 3), long(1024), long(1025), strings.Repeat("\xff", 70000)) {
		if !Has(Whole(), k) {
			t.Errorf("the whole span hasn't %s", cut(k))
		}
	}
}

// 4.2: spans that are good or not, empty or not.
func TestGoodAndEmpty(t *testing.T) {
	for s, want := range map[Span][2]bool{
		to("", ""):                 {true, true},
		to("", "\x00"):             {true, false},
		to("", "a"):                {true, false},
		to("\x00", ""):             {false, true},
		to("a", ""):                {false, true},
		to("a", "a"):               {true, true},
		to("a", "b"):               {true, false},
		to("b", "a"):               {false, true},
		to("a", "a\x00"):           {true, false},
		to("a\x00", "a"):           {false, true},
		to("a", "aa"):              {true, false},
		to("aa", "a"):              {false, true},
		to("aa", "aa"):             {true, true},
		to("aa", "b"):              {true, false},
		to("b", "aa"):              {false, true},
		to("B", "a"):               {true, false},
		to("a", "B"):               {false, true},
		to("9", "10"):              {false, true},
		to("z", "é"):               {true, false},
		to("é", "z"):               {false, true},
		to("\U00010000", "\uffff"): {false, true},
		to("\x7f", "\x80"):         {true, false},
		to("\x80", "\x7f"):         {false, true},
		to("\xff", "\xff\x00"):     {true, false},
		from(""):                   {true, false},
		from("a"):                  {true, false},
		from("\xff\xff"):           {true, false},
		{"a", "a", true}:           {true, false},
		{"b", "a", true}:           {true, false},
		{"a", "b", true}:           {true, false},
		{"\xff", "\x00", true}:     {true, false},
		{"", "a", true}:            {true, false},
		to(long(1024), long(1025)): {true, false},
		to(long(1025), long(1024)): {false, true},
	} {
		if Good(s) != want[0] || Empty(s) != want[1] {
			t.Errorf("%s: Good %v, Empty %v", show(s), Good(s), Empty(s))
		}
	}
}

// 4.2: whether texts lie in spans; an end is beyond its span, and a span without one goes on past its Hi.
func TestHas(t *testing.T) {
	for _, x := range []struct {
		s       Span
		in, out []string
	}{
		{to("a", "c"), []string{"a", "a\x00", "aa", "a\xff", "b", "bzz", "b\xff\xff"}, []string{"", "\x00", "A", "c", "c\x00", "ca", "d", "\xff"}},
		{to("", "a"), []string{"", "\x00", "A", "Zz", "`"}, []string{"a", "a\x00", "b"}},
		{to("a", "a\x00"), []string{"a"}, []string{"", "a\x00", "a\x00\x00", "aa", "b"}},
		{to("ab", "abc"), []string{"ab", "ab\x00", "aba", "abb\xff"}, []string{"", "a", "aa", "abc", "abca", "abd", "ac", "b"}},
		{to("é", "\xff"), []string{"é", "éa", "€", "\xfe\xff"}, []string{"", "e", "z", "\xff", "\xff\x00"}},
		{to("10", "9"), []string{"10", "100", "2", "8", "89"}, []string{"1", "0", "9", "90"}},
		{to("", ""), nil, []string{"", "\x00", "a", "\xff"}},
		{to("b", "b"), nil, []string{"", "a", "b", "b\x00", "c"}},
		{to("c", "a"), nil, []string{"", "a", "b", "c", "d"}},
		{to("a", ""), nil, []string{"", "\x00", "a", "b"}},
		{from(""), []string{"", "\x00", "a", "\xff\xff"}, nil},
		{from("b"), []string{"b", "b\x00", "ba", "c", "\xff\xff\xff"}, []string{"", "a", "a\xff\xff", "B"}},
		{Span{"b", "c", true}, []string{"b", "bb", "c", "d", "\xff"}, []string{"", "a"}},
		{Span{"b", "a", true}, []string{"b", "bb", "c"}, []string{"", "a", "aa"}},
		{Span{"b", "b", true}, []string{"b", "c"}, []string{"a"}},
	} {
		for _, k := range x.in {
			if !Has(x.s, k) {
				t.Errorf("%s hasn't %q", show(x.s), k)
			}
		}
		for _, k := range x.out {
			if Has(x.s, k) {
				t.Errorf("%s has %q", show(x.s), k)
			}
		}
	}
}

// 4.2: of texts longer than a key, it is the bytes that count, also the last of them.
func TestHasLongTexts(t *testing.T) {
	k := long(1024)
	s := to(k+"b", k+"d")
	for end, want := range map[string]bool{"": false, "a": false, "a\xff": false, "b": true, "b\x00": true, "c": true, "c" + k: true, "d": false, "d\x00": false, "e": false} {
		if Has(s, k+end) != want {
			t.Errorf("%s has %s, and %q behind it: not %v", show(s), cut(k), end, want)
		}
	}
}

// 4.2: all spans of short texts, held against the chapter's words.
func TestSpansByTheWords(t *testing.T) {
	l := texts("\x00a\xff", 3)
	for _, s := range spans(l) {
		in := 0
		for _, k := range l {
			want := lies(s, k)
			if want {
				in++
			}
			if Has(s, k) != want {
				t.Fatalf("%s has %q: not %v", show(s), k, want)
			}
		}
		// If any text lies in it, its Lo does, which is among those asked.
		if Empty(s) != (in == 0) {
			t.Fatalf("%s: Empty %v, but %d of the texts lie in it", show(s), Empty(s), in)
		}
		if want := s.All || !less(s.Hi, s.Lo); Good(s) != want {
			t.Fatalf("%s: Good is not %v", show(s), want)
		}
	}
}

// 4.3: what spans have in common, to the letter.
func TestMeet(t *testing.T) {
	for _, x := range []struct{ a, b, want Span }{
		{to("a", "c"), from("b"), to("b", "c")},
		{to("a", "c"), to("b", "d"), to("b", "c")},
		{to("a", "d"), to("b", "c"), to("b", "c")},
		{to("a", "c"), to("a", "c"), to("a", "c")},
		{to("a", "b"), to("b", "c"), to("b", "b")},
		{to("a", "b"), to("c", "d"), to("c", "b")},
		{to("c", "a"), to("a", "c"), to("c", "a")},
		{to("d", "b"), to("c", "a"), to("d", "a")},
		{to("", ""), to("a", "b"), to("a", "")},
		{to("", ""), from("a"), to("a", "")},
		{to("", ""), Whole(), to("", "")},
		{to("a", "ab"), to("a\x00", "aa"), to("a\x00", "aa")},
		{to("a", "aa"), to("aa", "aaa"), to("aa", "aa")},
		{to("9", "a"), to("10", "b"), to("9", "a")},
		{to("z", "\xff"), to("é", "\xfe"), to("é", "\xfe")},
		{from("a"), from("b"), from("b")},
		{from("a"), from("a"), from("a")},
		{from(""), from(""), Whole()},
		{Whole(), to("a", "b"), to("a", "b")},
		{Whole(), from("a"), from("a")},
		{from("c"), to("a", "b"), to("c", "b")},
		{from(long(1025)), to(long(1024), long(1026)), to(long(1025), long(1026))},
		// A Hi that counts for nothing is neither the lesser end, nor left over.
		{Span{"a", "b", true}, to("a", "z"), to("a", "z")},
		{Span{"a", "z", true}, to("a", "b"), to("a", "b")},
		{Span{"a", "", true}, to("a", "b"), to("a", "b")},
		{Span{"z", "a", true}, to("a", "b"), to("z", "b")},
		{Span{"a", "x", true}, Span{"b", "y", true}, from("b")},
		{Span{"a", "x", true}, Span{"a", "x", true}, from("a")},
		{Span{"a", "x", true}, Whole(), from("a")},
	} {
		if m := Meet(x.a, x.b); m != x.want {
			t.Errorf("Meet of %s, and %s = %s", show(x.a), show(x.b), show(m))
		}
		if m := Meet(x.b, x.a); m != x.want {
			t.Errorf("Meet of %s, and %s = %s", show(x.b), show(x.a), show(m))
		}
	}
}

// 4.3: a span cut at a text within it, at its ends, and beyond them.
func TestCut(t *testing.T) {
	for _, x := range []struct {
		s             Span
		k             string
		below, beyond Span
	}{
		{to("a", "e"), "c", to("a", "c"), to("c", "e")},
		{to("a", "e"), "a", to("a", "a"), to("a", "e")},
		{to("a", "e"), "a\x00", to("a", "a\x00"), to("a\x00", "e")},
		{to("a", "e"), "e", to("a", "e"), to("e", "e")},
		{to("c", "e"), "a", to("c", "a"), to("c", "e")},
		{to("c", "e"), "", to("c", ""), to("c", "e")},
		{to("a", "c"), "d", to("a", "c"), to("d", "c")},
		{to("e", "a"), "c", to("e", "a"), to("e", "a")},
		{to("a", "a"), "a", to("a", "a"), to("a", "a")},
		{to("", ""), "", to("", ""), to("", "")},
		{to("", ""), "a", to("", ""), to("a", "")},
		{Whole(), "c", to("", "c"), from("c")},
		{Whole(), "", to("", ""), Whole()},
		{from("b"), "c", to("b", "c"), from("c")},
		{from("b"), "b", to("b", "b"), from("b")},
		{from("b"), "a", to("b", "a"), from("b")},
		{from("\xff"), "\xff\xff", to("\xff", "\xff\xff"), from("\xff\xff")},
		{Span{"a", "b", true}, "c", to("a", "c"), from("c")},
		{Span{"a", "x", true}, "c", to("a", "c"), from("c")},
		{Span{"a", "", true}, "c", to("a", "c"), from("c")},
		{Whole(), long(1024), to("", long(1024)), from(long(1024))},
		{to("k", long(1025)), long(1024), to("k", long(1024)), to(long(1024), long(1025))},
	} {
		if a, b := Cut(x.s, x.k); a != x.below || b != x.beyond {
			t.Errorf("Cut of %s at %s = %s, and %s", show(x.s), cut(x.k), show(a), show(b))
		}
	}
}

// 4.3: of all short spans, each text that lies in it lies in just that part which is on its side of the cut.
func TestCutByTheWords(t *testing.T) {
	l := texts("\x00a\xff", 2)
	for _, s := range spans(l) {
		for _, k := range l {
			a, b := Cut(s, k)
			for _, x := range l {
				in := lies(s, x)
				if lies(a, x) != (in && less(x, k)) || lies(b, x) != (in && !less(x, k)) {
					t.Fatalf("Cut of %s at %q = %s, and %s: where is %q?", show(s), k, show(a), show(b), x)
				}
			}
			if lies(s, k) && !Joins(a, b) {
				t.Fatalf("Cut of %s at %q = %s, and %s, which don't join", show(s), k, show(a), show(b))
			}
		}
	}
}

// 4.3: whether one span begins where another one ends, whatever else they are.
func TestJoins(t *testing.T) {
	for _, x := range []struct {
		a, b Span
		want bool
	}{
		{to("a", "b"), to("b", "c"), true},
		{to("a", "b"), from("b"), true},
		{to("a", "b"), Span{"b", "a", true}, true},
		{to("a", "b"), to("b", "b"), true},
		{to("b", "b"), to("b", "b"), true},
		{to("c", "b"), to("b", "a"), true},
		{to("", ""), to("", ""), true},
		{to("", ""), Whole(), true},
		{to("a", ""), to("", "a"), true},
		{to("a", long(1024)), from(long(1024)), true},
		{to("b", "c"), to("a", "b"), false},
		{to("a", "b"), to("b\x00", "c"), false},
		{to("a", "b\x00"), to("b", "c"), false},
		{to("a", "b"), to("a", "b"), false},
		{to("a", "b"), to("c", "d"), false},
		{to("a", "c"), to("b", "d"), false},
		{to("a", "b"), to("", "b"), false},
		{to("a", "b"), Whole(), false},
		{to("a", "b"), to("B", "c"), false},
		{from("a"), from("a"), false},
		{from("a"), to("", "b"), false},
		{Whole(), Whole(), false},
		{Whole(), to("", "a"), false},
		{Span{"a", "b", true}, to("b", "c"), false},
		{Span{"a", "b", true}, from("b"), false},
		{to("a", long(1024)), from(long(1025)), false},
	} {
		if Joins(x.a, x.b) != x.want {
			t.Errorf("Joins of %s, and %s is not %v", show(x.a), show(x.b), x.want)
		}
	}
}

// 4.4: of all short spans, a text lies in what two have in common just if it lies in both.
func TestLiesInBoth(t *testing.T) {
	l := texts("\x00a\xff", 3)
	all := spans(texts("\x00a\xff", 2))
	for _, a := range all {
		for _, b := range all {
			m := Meet(a, b)
			if m.All && m.Hi != "" {
				t.Fatalf("Meet of %s, and %s = %s", show(a), show(b), show(m))
			}
			for _, k := range l {
				if Has(m, k) != (lies(a, k) && lies(b, k)) {
					t.Fatalf("Meet of %s, and %s = %s has %q: %v", show(a), show(b), show(m), k, Has(m, k))
				}
			}
		}
	}
}

// 4.4: so it is where texts are longer than keys, and unlike in their last byte alone.
func TestLongTextsLieInBoth(t *testing.T) {
	var l []string
	for _, n := range []int{1023, 1024, 1025, 65537} {
		l = append(l, long(n), long(n-1)+"a", long(n-1)+"z")
	}
	all := spans(l)
	for _, a := range all {
		for _, b := range all {
			m := Meet(a, b)
			for _, k := range []string{l[0], l[4], l[8], l[9]} {
				if Has(m, k) != (Has(a, k) && Has(b, k)) {
					t.Fatalf("Meet of %s, and %s = %s has %s: %v", show(a), show(b), show(m), cut(k), Has(m, k))
				}
			}
		}
	}
}

// The order of this file's own words is that of bytes: a text ahead of each longer one that begins with it.
func TestOrderByTheWords(t *testing.T) {
	l := []string{"", "\x00", "\x00\x00", "\x00a", "A", "a", "a\x00", "a\x00\x00", "aa", "ab", "a\x7f", "aé", "a\xff", "b", "\x7f", "\x80", "é", "€", "\U00010000", "\xff", "\xff\x00", "\xff\xff"}
	for i, a := range l {
		for j, b := range l {
			if less(a, b) != (i < j) {
				t.Errorf("less(%q, %q) = %v", a, b, less(a, b))
			}
			if Has(from(a), b) != (i <= j) || Has(to("", a), b) != (j < i) {
				t.Errorf("%q and %q stand in another order", a, b)
			}
		}
	}
	if !slices.IsSorted(l) {
		t.Error("the texts don't rise")
	}
}
