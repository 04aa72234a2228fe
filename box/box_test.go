package box

import (
	"bytes"
	"math"
	"strings"
	"testing"
)

// held is what is put into a box, told beside it.
type held struct {
	kind int
	n    int
	s    string
}

func (h held) box() Box {
	switch h.kind {
	case 1:
		return OfNumber(h.n)
	case 2:
		return OfName(h.s)
	case 3:
		return OfText(h.s)
	}
	return Box{}
}

// samples are values of all kinds, rising as 2.4 says.
func samples() []held {
	l := []held{{}}
	for _, n := range []int{math.MinInt, math.MinInt + 1, -1 << 32, -1 << 31, -256, -2, -1, 0, 1, 2, 9, 10, 255, 256, 1<<31 - 1, 1 << 31, 1 << 32, 999999999999999, math.MaxInt - 1, math.MaxInt} {
		l = append(l, held{kind: 1, n: n})
	}
	long := strings.Repeat("a", 70000)
	for kind := 2; kind <= 3; kind++ {
		for _, s := range []string{"", "\x00", "\x00\x00", "\x00a", " ", "-1", "0", "1", "10", "2", "A", "B", "a", "a\x00", "a b", "aA", "aa", long, long + "a", "ab", "b", "z", "\x7f", "\x80", "é", "€", "\ue000", "\ufffd", "\U00010000", "\xff", "\xff\x00", "\xff\xff"} {
			l = append(l, held{kind: kind, s: s})
		}
	}
	return l
}

// panics tells whether a call does.
func panics(f func()) (yes bool) {
	defer func() { yes = recover() != nil }()
	f()
	return false
}

// short keeps what a failing test tells readable.
func short(h held) held {
	if len(h.s) > 20 {
		h.s = h.s[:20]
	}
	return h
}

// 2.1: the kinds have their numbers, and a box is of the kind that it was made of.
func TestKind(t *testing.T) {
	if Nothing != 0 || Number != 1 || Name != 2 || Text != 3 {
		t.Error("the kinds' numbers are others")
	}
	for _, x := range []struct {
		b    Box
		want int
	}{
		{Box{}, 0}, {OfNumber(7), 1}, {OfName("a"), 2}, {OfText("a b"), 3},
		{OfNumber(0), 1}, {OfName(""), 2}, {OfText(""), 3},
		{OfNumber(-7), 1}, {OfName("7"), 2}, {OfText("7"), 3},
	} {
		if k := Kind(x.b); k != x.want {
			t.Errorf("Kind(%v) = %d, not %d", x.b, k, x.want)
		}
	}
	var zero Box
	if Kind(zero) != Nothing {
		t.Error("the zero Box holds something")
	}
}

// 2.2: what is held, under its kind; 0 or an empty text, and false, under another.
func TestAs(t *testing.T) {
	if n, ok := AsNumber(OfNumber(-7)); !ok || n != -7 {
		t.Errorf("AsNumber = %d, %v", n, ok)
	}
	if s, ok := AsName(OfName("put")); !ok || s != "put" {
		t.Errorf("AsName = %q, %v", s, ok)
	}
	if s, ok := AsText(OfText("b c")); !ok || s != "b c" {
		t.Errorf("AsText = %q, %v", s, ok)
	}
	if s, ok := AsName(OfText("a")); ok || s != "" {
		t.Errorf("AsName of a text = %q, %v", s, ok)
	}
	if s, ok := AsText(OfName("a")); ok || s != "" {
		t.Errorf("AsText of a name = %q, %v", s, ok)
	}
	if s, ok := AsText(OfNumber(7)); ok || s != "" {
		t.Errorf("AsText of a number = %q, %v", s, ok)
	}
	if n, ok := AsNumber(OfText("7")); ok || n != 0 {
		t.Errorf("AsNumber of a text = %d, %v", n, ok)
	}
	if n, ok := AsNumber(Box{}); ok || n != 0 {
		t.Errorf("AsNumber of the zero Box = %d, %v", n, ok)
	}
	if n, ok := AsNumber(OfNumber(0)); !ok || n != 0 {
		t.Errorf("AsNumber of 0 = %d, %v", n, ok)
	}
}

// 2.3: what is held, under its kind.
func TestMust(t *testing.T) {
	if n := MustNumber(OfNumber(math.MinInt)); n != math.MinInt {
		t.Errorf("MustNumber = %d", n)
	}
	if s := MustName(OfName("put")); s != "put" {
		t.Errorf("MustName = %q", s)
	}
	if s := MustText(OfText("b\x00\xff")); s != "b\x00\xff" {
		t.Errorf("MustText = %q", s)
	}
	if n := MustNumber(OfNumber(0)); n != 0 {
		t.Errorf("MustNumber of 0 = %d", n)
	}
	if s := MustName(OfName("")) + MustText(OfText("")); s != "" {
		t.Errorf("MustName and MustText of empty ones = %q", s)
	}
}

// 2.3: a call panics just if the box holds none of its kind, be it nothing, or empty.
func TestMustPanics(t *testing.T) {
	calls := []func(b Box){
		1: func(b Box) { MustNumber(b) },
		2: func(b Box) { MustName(b) },
		3: func(b Box) { MustText(b) },
	}
	for _, h := range samples() {
		for kind := 1; kind <= 3; kind++ {
			if yes := panics(func() { calls[kind](h.box()) }); yes != (kind != h.kind) {
				t.Errorf("Must of kind %d of %v: it panics: %v", kind, short(h), yes)
			}
		}
	}
}

// 2.1, 2.2, 2.4: no call but the three panics.
func TestOthersDontPanic(t *testing.T) {
	l := samples()
	for _, h := range l {
		b := h.box()
		if panics(func() { Kind(b); AsNumber(b); AsName(b); AsText(b) }) {
			t.Errorf("a call of %v panics", short(h))
		}
		for _, g := range l {
			if panics(func() { Compare(b, g.box()) }) {
				t.Errorf("Compare(%v, %v) panics", short(h), short(g))
			}
		}
	}
}

// 2.4: by the kinds, by the numbers, by the bytes.
func TestCompare(t *testing.T) {
	for _, x := range []struct {
		a, b Box
		want int
	}{
		{Box{}, Box{}, 0},
		{Box{}, OfNumber(math.MinInt), -1},
		{Box{}, OfName(""), -1},
		{OfText(""), Box{}, 1},
		{OfNumber(math.MaxInt), OfName(""), -1},
		{OfNumber(7), OfText("7"), -1},
		{OfName("z"), OfText("a"), -1},
		{OfText("a"), OfName("a"), 1},
		{OfText(""), OfNumber(9), 1},
		{OfNumber(7), OfNumber(7), 0},
		{OfNumber(9), OfNumber(10), -1},
		{OfNumber(-9), OfNumber(-10), 1},
		{OfNumber(math.MinInt), OfNumber(math.MaxInt), -1},
		{OfNumber(math.MaxInt), OfNumber(-1), 1},
		{OfName("a"), OfName("a"), 0},
		{OfName("9"), OfName("10"), 1},
		{OfName("a"), OfName("ab"), -1},
		{OfText(""), OfText(""), 0},
		{OfText("a"), OfText("a\x00"), -1},
		{OfText("B"), OfText("a"), -1},
		{OfText("\xff"), OfText("a"), 1},
		{OfText("\xf0\x90\x80\x80"), OfText("\ue000"), 1},
	} {
		if n := Compare(x.a, x.b); n != x.want {
			t.Errorf("Compare(%v, %v) = %d, not %d", x.a, x.b, n, x.want)
		}
	}
}

// 2.4: each two of the samples are in the order in which they stand.
func TestCompareAll(t *testing.T) {
	l := samples()
	for i, a := range l {
		for j, b := range l {
			want := 0
			switch {
			case i < j:
				want = -1
			case i > j:
				want = 1
			}
			if n := Compare(a.box(), b.box()); n != want {
				t.Errorf("Compare(%v, %v) = %d, not %d", short(a), short(b), n, want)
			}
		}
	}
}

// 2.4: names and texts that differ in one byte, at the beginning or behind another, are in the order of their bytes.
func TestCompareBytes(t *testing.T) {
	var l []string
	for a := range 256 {
		l = append(l, string([]byte{byte(a)}), string([]byte{'m', byte(a)}))
	}
	for _, a := range l {
		for _, b := range l {
			want := bytes.Compare([]byte(a), []byte(b))
			if n := Compare(OfText(a), OfText(b)); n != want {
				t.Fatalf("Compare of the texts %q, %q = %d, not %d", a, b, n, want)
			}
			if n := Compare(OfName(a), OfName(b)); n != want {
				t.Fatalf("Compare of the names %q, %q = %d, not %d", a, b, n, want)
			}
		}
	}
}

// 2.5: what was put into a box is what it holds, under its own kind alone, whatever other boxes were made since.
func TestHoldsWhatWasPut(t *testing.T) {
	l := samples()
	boxes := make([]Box, len(l))
	for i, h := range l {
		boxes[i] = h.box()
	}
	for i, h := range l {
		b := boxes[i]
		if k := Kind(b); k != h.kind {
			t.Errorf("%v: Kind = %d", short(h), k)
		}
		if n, ok := AsNumber(b); ok != (h.kind == 1) || n != h.n {
			t.Errorf("%v: AsNumber = %d, %v", short(h), n, ok)
		}
		want := [4]string{}
		want[h.kind] = h.s
		if s, ok := AsName(b); ok != (h.kind == 2) || s != want[2] {
			t.Errorf("%v: AsName = %.20q, %v", short(h), s, ok)
		}
		if s, ok := AsText(b); ok != (h.kind == 3) || s != want[3] {
			t.Errorf("%v: AsText = %.20q, %v", short(h), s, ok)
		}
		switch {
		case h.kind == 1 && MustNumber(b) != h.n, h.kind == 2 && MustName(b) != h.s, h.kind == 3 && MustText(b) != h.s:
			t.Errorf("%v: Must answers another", short(h))
		}
	}
}
