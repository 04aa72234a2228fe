package runes

import (
	"regexp"
	"slices"
	"strconv"
	"strings"
	"testing"
	"unicode/utf8"
)

// first answers the rune that stands at the beginning of s, and how many bytes it has, by the chapter's words alone; 0 bytes: none stands there.
func first(s string) (rune, int) {
	leads := []struct{ mask, lead, least int }{{0x80, 0, 0}, {0xe0, 0xc0, 0x80}, {0xf0, 0xe0, 0x800}, {0xf8, 0xf0, 0x10000}}
	for more, x := range leads {
		if s == "" || int(s[0])&x.mask != x.lead || len(s) <= more {
			continue
		}
		r := int(s[0]) &^ x.mask
		for _, c := range []byte(s[1 : 1+more]) {
			if c&0xc0 != 0x80 {
				return 0, 0
			}
			r = r<<6 | int(c&0x3f)
		}
		if r < x.least || r > 1114111 || 55296 <= r && r <= 57343 {
			return 0, 0
		}
		return rune(r), 1 + more
	}
	return 0, 0
}

// places answers the runes of s, U+FFFD where none stands, the first such place (or -1), and s between quotes.
func places(s string) ([]rune, int, string) {
	var l []rune
	wrong, quoted := -1, `"`
	for i := 0; i < len(s); {
		r, n := first(s[i:])
		switch {
		case n == 0 && wrong < 0:
			wrong = i
		case n > 0 && (r == '"' || r == '\\'):
			quoted += `\`
		}
		if n == 0 || r < 32 || r == 127 {
			quoted += `\x` + strconv.FormatInt(int64(s[i])+256, 16)[1:]
		} else {
			quoted += s[i : i+n]
		}
		if n == 0 {
			r, n = '\ufffd', 1
		}
		l = append(l, r)
		i += n
	}
	return l, wrong, quoted + `"`
}

// each hands over all texts of at most so many pieces.
func each(pieces []string, most int, f func(s string)) {
	f("")
	if most == 0 {
		return
	}
	for _, p := range pieces {
		each(pieces, most-1, func(s string) { f(p + s) })
	}
}

// edges are the bytes at the ends of what may lead, and follow, in a rune, and those that mean something between quotes.
func edges() []string {
	var l []string
	for _, c := range []byte("\x00\x1f \"\\0x~\x7f\x80\x8f\x90\x9f\xa0\xbd\xbf\xc1\xc2\xdf\xe0\xe1\xed\xef\xf0\xf4\xf5\xff") {
		l = append(l, string([]byte{c}))
	}
	return l
}

func checkText(t *testing.T, s string) {
	l, wrong, quoted := places(s)
	if n := Right(s); n != wrong {
		t.Fatalf("Right(%q) = %d, not %d", s, n, wrong)
	}
	if x := Split(s); !slices.Equal(x, l) {
		t.Fatalf("Split(%q) = %x, not %x", s, x, l)
	}
	if wrong < 0 && Join(l) != s {
		t.Fatalf("Join of the runes of %q = %q", s, Join(l))
	}
	if q := Quote(s); q != quoted {
		t.Fatalf("Quote(%q) = %s, not %s", s, q, quoted)
	}
	if u, ok := Unquote(quoted); !ok || u != s {
		t.Fatalf("Unquote(%s) = %q, %v, not %q", quoted, u, ok, s)
	}
}

// 1.1, 1.3, 1.4: all texts of two bytes, and those of four bytes at the edges.
func TestAllShortTexts(t *testing.T) {
	for a := range 256 {
		checkText(t, string([]byte{byte(a)}))
		for b := range 256 {
			checkText(t, string([]byte{byte(a), byte(b)}))
		}
	}
	each(edges(), 4, func(s string) { checkText(t, s) })
}

// 1.1: each number from below the runes to beyond them.
func TestAllRunes(t *testing.T) {
	var all []rune
	for r := rune(-3); r <= 1114111+3; r++ {
		s := Join([]rune{r})
		if r < 0 || r > 1114111 || 55296 <= r && r <= 57343 {
			if s != "\ufffd" {
				t.Fatalf("Join of %d = %q", r, s)
			}
			continue
		}
		if x, n := first(s); x != r || n != len(s) || Right(s) != -1 {
			t.Fatalf("Join of %d = %q", r, s)
		}
		all = append(all, r)
	}
	if s := Join(all); !slices.Equal(Split(s), all) || Right(s) != -1 {
		t.Error("the runes, one behind the other, aren't split as they were joined")
	}
}

// 1.1: places are counted in bytes, and it is the first one.
func TestRight(t *testing.T) {
	for s, want := range map[string]int{
		"":                     -1,
		"abc":                  -1,
		"\ufffd":               -1,
		"\ufffd\xff":           3,
		"€\U0010ffff":          -1,
		"\xe2\x82":             0,
		"a\xe2\x82b\xff":       1,
		"€\x80\x80":            3,
		"\xc0\x80":             0,
		"\xe0\x80\x80":         0,
		"\xf0\x80\x80\x80":     0,
		"\xed\xa0\x80":         0,
		"\xed\xbf\xbf":         0,
		"\xed\x9f\xbf":         -1,
		"\xee\x80\x80":         -1,
		"\xf4\x8f\xbf\xbf":     -1,
		"\xf4\x90\x80\x80":     0,
		"\xf8\x88\x80\x80\x80": 0,
	} {
		if n := Right(s); n != want {
			t.Errorf("Right(%q) = %d, not %d", s, n, want)
		}
	}
}

// 1.1: U+FFFD stands for each byte at which no rune stands, and for each number that is none.
func TestSplitAndJoin(t *testing.T) {
	for s, want := range map[string][]rune{
		"":                     nil,
		"a\x00€":               {'a', 0, 0x20ac},
		"\xe2\x82":             {0xfffd, 0xfffd},
		"\xe2\x82z":            {0xfffd, 0xfffd, 'z'},
		"\xed\xa0\x80":         {0xfffd, 0xfffd, 0xfffd},
		"\xf0\x9f\x98\x80\x80": {0x1f600, 0xfffd},
		"\ufffd":               {0xfffd},
	} {
		if l := Split(s); !slices.Equal(l, want) {
			t.Errorf("Split(%q) = %x, not %x", s, l, want)
		}
	}
	if s := Join(nil); s != "" {
		t.Errorf("Join of nothing = %q", s)
	}
	l := []rune{'a', -1, 0x110000, 0xd800, 0xdfff, -1 << 31, 1<<31 - 1, 0x20ac}
	was := slices.Clone(l)
	if s := Join(l); s != "a\ufffd\ufffd\ufffd\ufffd\ufffd\ufffd€" {
		t.Errorf("Join = %q", s)
	}
	if !slices.Equal(l, was) {
		t.Errorf("Join changed what it was handed: %x", l)
	}
	a, b := Split("abc"), Split("abc")
	clear(a[:cap(a)])
	if !slices.Equal(b, []rune("abc")) {
		t.Errorf("two answers share memory: %x", b)
	}
}

// 1.2: each class at all runes, and at numbers that are none.
func TestClass(t *testing.T) {
	sign := "!#$%&'()*+,-./:;<=>?@ABCDEFGHIJKLMNOPQRSTUVWXYZ[]^_`{|}~"
	want := map[rune]int{' ': 3, 9: 3, '"': 4, '\\': 4}
	for n, s := range []string{"", "abcdefghijklmnopqrstuvwxyz", "0123456789", "", "", sign} {
		for _, r := range s {
			want[r] = n
		}
	}
	for r := rune(-300); r <= 1114111+300; r++ {
		if n := Class(r); n != want[r] {
			t.Fatalf("Class(%d) = %d, not %d", r, n, want[r])
		}
	}
	for _, r := range []rune{-1 << 31, 1<<31 - 1, 256 + 'a', 1<<16 + '0', -'a'} {
		if n := Class(r); n != Other {
			t.Errorf("Class(%d) = %d", r, n)
		}
	}
	if Other != 0 || Letter != 1 || Digit != 2 || Blank != 3 || Mark != 4 || Sign != 5 {
		t.Error("the classes' numbers are others")
	}
}

// 1.3: what stands as it is, what has a \ ahead, and what is told by its digits.
func TestQuote(t *testing.T) {
	for s, want := range map[string]string{
		"":                       `""`,
		"a\"\xff":                `"a\"\xff"`,
		"abc 019~":               `"abc 019~"`,
		`\`:                      `"\\"`,
		"\x00\t\n\r\x1f\x7f":     `"\x00\x09\x0a\x0d\x1f\x7f"`,
		"é€\u0080\ufffd\u2028":   "\"é€\u0080\ufffd\u2028\"",
		"\xe2\x82":               `"\xe2\x82"`,
		"\xed\xa0\x80\U0001f600": `"\xed\xa0\x80` + "\U0001f600\"",
		"\xc3":                   `"\xc3"`,
		`\x00`:                   `"\\x00"`,
	} {
		if q := Quote(s); q != want {
			t.Errorf("Quote(%q) = %s, not %s", s, q, want)
		}
	}
}

// 1.3: what is no text between quotes tells nothing.
func TestUnquote(t *testing.T) {
	for s, want := range map[string]string{
		`""`:                         "",
		`"a b"`:                      "a b",
		`"\"\\"`:                     `"\`,
		`"\x41\x00\xff"`:             "A\x00\xff",
		`"\xe2\x82\xac"`:             "€",
		`"\\x0"`:                     `\x0`,
		`"\x22"`:                     `"`,
		"\"\ufffd\u0080\U0010ffff\"": "\ufffd\u0080\U0010ffff",
		`"#x0a"`:                     "#x0a",
	} {
		if u, ok := Unquote(s); !ok || u != want {
			t.Errorf("Unquote(%s) = %q, %v, not %q", s, u, ok, want)
		}
	}
	for _, s := range []string{
		``, `"`, `a`, `aa`, `"a`, `a"`, ` "a"`, `"a" `, `"a"b"`, `"""`, `'a'`,
		`"\"`, `"\\\"`, `"\a"`, `"\n"`, `"\X41"`, `"\x"`, `"\x4"`, `"\x4g"`, `"\x4A"`, `"\xg4"`, `"\u0041"`, `"\ "`, `"\€"`,
		"\"\n\"", "\"\x00\"", "\"\t\"", "\"\x1f\"", "\"\x7f\"", "\"\\\n\"", "\"\\\x7f\"", `"\x` + "€\"",
		"\"\xff\"", "\"\xe2\x82\"", "\"\\\xff\"", "\"\xed\xa0\x80\"", "\"\xc0\x80\"", "\xff", "\"a\"\xff",
	} {
		if u, ok := Unquote(s); ok || u != "" {
			t.Errorf("Unquote(%q) = %q, %v", s, u, ok)
		}
	}
}

// 1.3: all texts of few pieces are read, or refused, as the chapter's form says, told here by another reader.
func TestUnquoteByForm(t *testing.T) {
	form := regexp.MustCompile(`^"([^\x00-\x1f\x7f"\\]|\\["\\]|\\x[0-9a-f]{2})*"$`)
	pieces := []string{`"`, `\`, `x`, `0`, `f`, `F`, "\x1f", "\x7f", "€", "\x80", "\xe2"}
	each(pieces, 5, func(within string) {
		for _, s := range []string{within, `"` + within + `"`} {
			want, ok := "", utf8.ValidString(s) && form.MatchString(s)
			if ok {
				var err error
				if want, err = strconv.Unquote(s); err != nil {
					t.Fatal(s, err)
				}
			}
			if u, is := Unquote(s); is != ok || u != want {
				t.Fatalf("Unquote(%q) = %q, %v, not %q, %v", s, u, is, want, ok)
			}
		}
	})
}

// 1.4 (P8): what stands between quotes is read as it was, however long; a right text is that of its runes.
func TestReadAsItWas(t *testing.T) {
	var all strings.Builder
	for i := range 1 << 16 {
		all.WriteByte(byte(i >> 8))
		all.WriteByte(byte(i))
	}
	for _, s := range []string{"", all.String(), strings.Repeat("\\", 9999), strings.Repeat("\"\ufffd\xef\xbf", 9999)} {
		q := Quote(s)
		if u, ok := Unquote(q); !ok || u != s {
			t.Errorf("a text of %d bytes isn't read as it was", len(s))
		}
		if Right(q) != -1 || Join(Split(q)) != q {
			t.Errorf("a text of %d bytes, between quotes, isn't that of its runes", len(s))
		}
		if u, ok := Unquote(Quote(q)); !ok || u != q {
			t.Errorf("a text of %d bytes, twice between quotes, isn't read as it was", len(s))
		}
	}
}
