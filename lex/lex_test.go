package lex

import (
	"math"
	"math/rand/v2"
	"regexp"
	"slices"
	"strconv"
	"strings"
	"testing"
	"unicode/utf8"

	"rundle/api"
	"rundle/box"
)

// Short names for what boxes hold.
var (
	num  = box.OfNumber
	name = box.OfName
	text = box.OfText
)

// words is a list of boxes.
func words(l ...box.Box) []box.Box { return l }

func sameWords(a, b []box.Box) bool {
	return slices.EqualFunc(a, b, func(x, y box.Box) bool { return box.Compare(x, y) == 0 })
}

func sameLines(a, b []Line) bool {
	return slices.EqualFunc(a, b, func(x, y Line) bool { return x.No == y.No && sameWords(x.Words, y.Words) })
}

// cut keeps what a failing test tells readable.
func cut(s string) string { return strconv.Quote(s[:min(len(s), 60)]) }

// each hands over all texts of at most so many pieces.
func each(pieces []string, most int, f func(s string)) {
	f("")
	if most == 0 {
		return
	}
	for _, p := range pieces {
		each(pieces, most-1, func(s string) { f(p + s) })
	}
}

// The chapter's forms, told once more.
const (
	textForm   = `"(?:[^\x00-\x1f\x7f"\\]|\\["\\]|\\x[0-9a-f]{2})*"`
	numberForm = `0|-?[1-9][0-9]{0,14}`
	nameForm   = `[a-z][a-z0-9]{0,19}`
	wordForm   = `(?:` + textForm + `|` + numberForm + `|` + nameForm + `)`
)

var (
	isNumber = regexp.MustCompile(`^(?:` + numberForm + `)$`)
	isName   = regexp.MustCompile(`^` + nameForm + `$`)
	isLine   = regexp.MustCompile(`(?s)^([ \t]*(?:` + wordForm + `[ \t]+)*` + wordForm + `?)(?:#.*)?$`)
	aWord    = regexp.MustCompile(wordForm)
)

// lineByForm answers the words of a line as another reader reads them.
func lineByForm(line string) ([]box.Box, bool) {
	m := isLine.FindStringSubmatch(line)
	if m == nil || !utf8.ValidString(m[1]) {
		return nil, false
	}
	if at := m[1]; len(at) < len(line) && at != "" && !strings.HasSuffix(at, " ") && !strings.HasSuffix(at, "\t") {
		return nil, false // a remark begins where a word could begin
	}
	var l []box.Box
	for _, w := range aWord.FindAllString(m[1], -1) {
		switch {
		case w[0] == '"':
			s, err := strconv.Unquote(w)
			if err != nil {
				panic(err)
			}
			l = append(l, text(s))
		case isName.MatchString(w):
			l = append(l, name(w))
		default:
			n, err := strconv.Atoi(w)
			if err != nil {
				panic(err)
			}
			l = append(l, num(n))
		}
	}
	return l, true
}

// linesByForm answers what 3.2 says, as another reader reads it.
func linesByForm(s string) ([]Line, int, api.Errno) {
	if len(s) > 20000 {
		return nil, 0, api.ErrInvalid
	}
	var l []Line
	for no := 1; ; no++ {
		line, rest, more := strings.Cut(s, "\n")
		x, ok := lineByForm(line)
		if !ok {
			return nil, no, api.ErrForm
		}
		if len(x) > 0 {
			l = append(l, Line{no, x})
		}
		if s = rest; !more {
			return l, 0, api.OK
		}
	}
}

func checkByForm(t *testing.T, s string) {
	want, wantNo, wantErr := linesByForm(s)
	l, no, err := Lines(s)
	if !sameLines(l, want) || no != wantNo || err != wantErr {
		t.Fatalf("Lines(%s) = %v, %d, %d, not %v, %d, %d", cut(s), l, no, err, want, wantNo, wantErr)
	}
}

// refused checks that a text is refused at a line, and that nothing is told beside.
func refused(t *testing.T, s string, wantNo int, want api.Errno) {
	t.Helper()
	if l, no, err := Lines(s); len(l) > 0 || no != wantNo || err != want {
		t.Errorf("Lines(%s) = %v, %d, %d, not %d, %d", cut(s), l, no, err, wantNo, want)
	}
}

// read checks that a text has just these lines.
func read(t *testing.T, s string, want ...Line) {
	t.Helper()
	if l, no, err := Lines(s); !sameLines(l, want) || no != 0 || err != api.OK {
		t.Errorf("Lines(%s) = %v, %d, %d, not %v", cut(s), l, no, err, want)
	}
}

// 3.1: numbers, at the ends of what they may be.
func TestNumber(t *testing.T) {
	for s, want := range map[string]int{
		"0": 0, "1": 1, "9": 9, "10": 10, "-1": -1, "-9": -9, "-10": -10, "42": 42, "100000": 100000,
		"1234567890": 1234567890, "-9876543210": -9876543210, "2147483648": 1 << 31, "4294967296": 1 << 32,
		"100000000000000": 1e14, "-100000000000000": -1e14,
		"999999999999999": 999999999999999, "-999999999999999": -999999999999999,
	} {
		if n, ok := Number(s); !ok || n != want {
			t.Errorf("Number(%q) = %d, %v", s, n, ok)
		}
	}
}

// 3.1: what is no number tells 0, false.
func TestNoNumber(t *testing.T) {
	for _, s := range []string{
		"", "-", "--1", "-0", "00", "01", "07", "-01", "-00", "007", "+0", "+1", "1-", "1-2", "- 1",
		" 1", "1 ", "\t1", "1\n", "1\x00", "1.", "1.0", ".5", "1e3", "0x1", "0b1", "0o7", "1_000", "1,000",
		"a", "1a", "a1", "12a", "-a", "1/", "1:", "\"1\"", "1#", "\xff", "1\xff", "\xb1", "٣", "１", "1１", "²", "−1",
		"1000000000000000", "-1000000000000000", "0999999999999999", "0000000000000001",
		"9223372036854775807", "9223372036854775808", "18446744073709551617", strings.Repeat("1", 30000), "-" + strings.Repeat("1", 16),
	} {
		if n, ok := Number(s); ok || n != 0 {
			t.Errorf("Number(%s) = %d, %v", cut(s), n, ok)
		}
	}
}

// 3.1: names, at the ends of what they may be.
func TestName(t *testing.T) {
	for _, s := range []string{
		"a", "z", "m", "put", "a0", "a9", "z0z9", "az09", "snapscan", "x1y2",
		strings.Repeat("a", 20), "z" + strings.Repeat("9", 19), "abcdefghijklmnopqrst",
	} {
		if !Name(s) {
			t.Errorf("Name(%q) = false", s)
		}
	}
	for _, s := range []string{
		"", "0", "9", "0a", "9z", "1", "-a", "A", "Z", "aB", "Put", "a_b", "_a", "a-b", "a.b", "a b", " a", "a ", "a\t", "a\n", "a\x00",
		"`", "{", "a`", "a{", "a/", "a:", "a#", "#a", "\"a\"", "a\"", "é", "aé", "a\xff", "\xff", "\xe1", "ａ", "a１", "ſ", "aK", "٣",
		strings.Repeat("a", 21), strings.Repeat("a", 20) + "0", "a" + strings.Repeat("é", 10), strings.Repeat("a", 30000),
	} {
		if Name(s) {
			t.Errorf("Name(%s) = true", cut(s))
		}
	}
}

// 3.1: each byte, as a whole text, as the first one and as a later one.
func TestEachByteOfNumbersAndNames(t *testing.T) {
	for c := range 256 {
		b := string([]byte{byte(c)})
		for _, s := range []string{b, b + "1", "1" + b, "-" + b, "-" + b + "1", "-1" + b, b + "a", "a" + b, "a1" + b} {
			if got, want := Name(s), isName.MatchString(s); got != want {
				t.Errorf("Name(%q) = %v", s, got)
			}
			want, is := 0, isNumber.MatchString(s)
			if is {
				want, _ = strconv.Atoi(s)
			}
			if n, ok := Number(s); ok != is || n != want {
				t.Errorf("Number(%q) = %d, %v, not %d, %v", s, n, ok, want, is)
			}
		}
	}
}

// 3.2: words of each kind, parted by blanks.
func TestWordsOfALine(t *testing.T) {
	for s, want := range map[string][]box.Box{
		`a "b c" -7 # d`:                      words(name("a"), text("b c"), num(-7)),
		`a`:                                   words(name("a")),
		`0`:                                   words(num(0)),
		`""`:                                  words(text("")),
		" \t a\t\t0  \t\"x\" \t":              words(name("a"), num(0), text("x")),
		"\ta":                                 words(name("a")),
		"a\t":                                 words(name("a")),
		`a7 7 "7"`:                            words(name("a7"), num(7), text("7")),
		`"a" "b"`:                             words(text("a"), text("b")),
		"\"a\"\t\"b\"":                        words(text("a"), text("b")),
		`" " "  a  "`:                         words(text(" "), text("  a  ")),
		`"\"" a`:                              words(text(`"`), name("a")),
		`"\\" a`:                              words(text(`\`), name("a")),
		`"\\\"" a`:                            words(text(`\"`), name("a")),
		`"\\\\" "\\" a`:                       words(text(`\\`), text(`\`), name("a")),
		`"\" \"" a`:                           words(text(`" "`), name("a")),
		`"a\" " "b"`:                          words(text(`a" `), text("b")),
		`"\x22 \x0a\xff\x5c" b`:               words(text("\" \n\xff\\"), name("b")),
		`"é€` + "\U0001f600\ufffd" + `" z`:    words(text("é€\U0001f600\ufffd"), name("z")),
		`put "a" "x" 0 -3`:                    words(name("put"), text("a"), text("x"), num(0), num(-3)),
		`999999999999999 -999999999999999`:    words(num(999999999999999), num(-999999999999999)),
		strings.Repeat("a", 20) + " " + `"A"`: words(name(strings.Repeat("a", 20)), text("A")),
	} {
		read(t, s, Line{1, want})
	}
}

// 3.2: a remark begins where a word could begin, and nowhere else; nothing in it matters.
func TestRemarks(t *testing.T) {
	a := Line{1, words(name("a"))}
	read(t, "#")
	read(t, "# a \"b")
	read(t, "#a")
	read(t, " \t# a")
	read(t, "\t#")
	read(t, "##")
	read(t, "#\xff\x00\x7f\r\\ \" 07 A é")
	read(t, "a #", a)
	read(t, "a #b", a)
	read(t, "a\t#\xff\"", a)
	read(t, "a # # b", a)
	read(t, "# a\na", Line{2, words(name("a"))})
	read(t, "a # \"\n# b\n\"c\" # \"\n7", a, Line{3, words(text("c"))}, Line{4, words(num(7))})
	read(t, `"#"`, Line{1, words(text("#"))})
	read(t, `" # " # " #`, Line{1, words(text(" # "))})
	read(t, `"\" # " 1`, Line{1, words(text(`" # `), num(1))})
	for _, s := range []string{"a#", "a#b", "a# b", "7#", "0#", `"a"#`, `"a"# b`, "-#", `"#`, `" # `} {
		refused(t, s, 1, api.ErrForm)
	}
}

// 3.2: lines are parted by the byte 10 alone; those without words count, but aren't told.
func TestLines(t *testing.T) {
	a, b := words(name("a")), words(name("b"), num(0))
	read(t, "")
	read(t, "\n")
	read(t, "\n\n \n\t\n#\n")
	read(t, " \t ")
	read(t, "a", Line{1, a})
	read(t, "a\n", Line{1, a})
	read(t, "\na", Line{2, a})
	read(t, "a\nb 0", Line{1, a}, Line{2, b})
	read(t, "a\nb 0\n", Line{1, a}, Line{2, b})
	read(t, "\n\n a \n\n# x\n\tb 0\n\n", Line{3, a}, Line{6, b})
	read(t, "a\na\na", Line{1, a}, Line{2, a}, Line{3, a})
	for _, s := range []string{"a\r", "a\r\n", "\r", "\v", "a\vb", "a\fb", "\x00", "a\x00", "a\u0085", "a\u00a0b", "\u2028", "\ufeffa", "\u3000a"} {
		refused(t, s, 1, api.ErrForm)
	}
}

// 3.2: what is no word, alone, behind a word, ahead of one, and in a later line.
func TestNoWord(t *testing.T) {
	for _, w := range []string{
		"07", "00", "-0", "-", "--1", "-01", "+1", "1a", "1-", "1.5", "1_0", "1000000000000000", "-1000000000000000",
		"A", "aB", "Ab", "_", "a_b", "a-b", "a.b", "!", "~", "'a'", "`a`", "é", "aé", "\xff", "a\xff", "0\x80", "\x7f", strings.Repeat("a", 21), "٣",
		`"`, `"a`, `a"`, `a""`, `a"b"`, `7""`, `-"a"`, `"a"b`, `"a"7`, `""""`, `"a""b"`, `"a"-1`, `"a"b"`, `"""`, `"a"\`, `"a"\"`, `""a`, `"a"é`, "\"a\"\xff", "\"a\"\r",
		`\`, `\"`, `\"a"`, `\"a\"`, `a\`, `\x41`, `""\x41`,
		`"\"`, `"a\"`, `"\\\"`, `"\`, `"\a"`, `"\n"`, `"\X41"`, `"\x"`, `"\x4"`, `"\x4g"`, `"\x4A"`, `"\xF0"`, `"\u0041"`, `"\ "`, `"\é"`, `"\#"`,
		"\"\x00\"", "\"\t\"", "\"a\tb\"", "\"\x1f\"", "\"\x7f\"", "\"\r\"", "\"\\\t\"", "\"\\\x7f\"", "\"\xff\"", "\"\xe2\x82\"", "\"\\\xff\"", "\"\xed\xa0\x80\"", "\"\xc0\x80\"",
	} {
		refused(t, w, 1, api.ErrForm)
		refused(t, w+" a", 1, api.ErrForm)
		refused(t, "a "+w, 1, api.ErrForm)
		refused(t, "\t"+w+"\t", 1, api.ErrForm)
		refused(t, "a 0 \"b\"\n# x\n\n7 "+w+"\na", 4, api.ErrForm)
	}
}

// 3.2: a text between quotes ends in its line.
func TestTextsEndInTheirLine(t *testing.T) {
	refused(t, "\"a\nb\"", 1, api.ErrForm)
	refused(t, "a\n\"a\nb\"", 2, api.ErrForm)
	refused(t, "\"a\\\nb\"", 1, api.ErrForm)
	refused(t, "\"a\"\n\"\n\"", 2, api.ErrForm)
}

// 3.2: the first such line's number is told, and no line.
func TestFirstWrongLine(t *testing.T) {
	refused(t, "a\nA\nB", 2, api.ErrForm)
	refused(t, "\n\n\nA", 4, api.ErrForm)
	refused(t, "A\na\nb", 1, api.ErrForm)
	refused(t, "a b \"c\" D e F\nG", 1, api.ErrForm)
	refused(t, "# A\n# B\na\nb #C\nd#E\n\"", 5, api.ErrForm)
	refused(t, strings.Repeat("a\n", 9998)+"A", 9999, api.ErrForm)
}

// 3.2: a text of 20000 bytes is read, one that is longer isn't, whatever stands in it.
func TestLongTexts(t *testing.T) {
	a := words(name("a"))
	for _, n := range []int{0, 1, 19998, 19999} {
		blanks := strings.Repeat(" ", n)
		read(t, blanks+"a", Line{1, a})
		read(t, "a"+blanks, Line{1, a})
		read(t, strings.Repeat("\n", n)+"a", Line{n + 1, a})
		read(t, "#"+strings.Repeat("\xff", n))
	}
	read(t, strings.Repeat("\n", 20000))
	whole := strings.Repeat("é", 9999)
	read(t, `"`+whole+`"`, Line{1, words(text(whole))})
	refused(t, `"`+whole+`" `, 0, api.ErrInvalid)
	refused(t, strings.Repeat("A", 20000), 1, api.ErrForm)
	for _, s := range []string{" ", "\n", "a", "A", "#", "0", "\xff", "\"", "a\n", "A\n", "\"\" "} {
		refused(t, strings.Repeat(s, 20001), 0, api.ErrInvalid)
		refused(t, strings.Repeat(s, 100000), 0, api.ErrInvalid)
	}
	refused(t, "A\n"+strings.Repeat(" ", 19999), 0, api.ErrInvalid)
	refused(t, strings.Repeat("a ", 9999)+"a b", 0, api.ErrInvalid)
	if api.MaxText != 20000 {
		t.Error("MaxText is another")
	}
}

// 3.2: many words of a line, and many lines.
func TestManyWordsAndLines(t *testing.T) {
	l, no, err := Lines(strings.Repeat("7 ", 10000))
	if len(l) != 1 || l[0].No != 1 || len(l[0].Words) != 10000 || no != 0 || err != api.OK {
		t.Errorf("10000 words are read as %d lines, %d, %d", len(l), no, err)
	}
	l, no, err = Lines(strings.Repeat("a\n", 10000))
	if len(l) != 10000 || no != 0 || err != api.OK {
		t.Fatalf("10000 lines are read as %d lines, %d, %d", len(l), no, err)
	}
	for i, x := range l {
		if x.No != i+1 || !sameWords(x.Words, words(name("a"))) {
			t.Fatalf("line %d is read as %v", i+1, x)
		}
	}
}

// 3.2: all texts of few pieces are read, or refused, as another reader does.
func TestLinesByForm(t *testing.T) {
	each([]string{`"`, `\`, ` `, "\t", "\n", `#`, `a`, `0`, `7`, `-`, "x41", "\xff", "é"}, 5, func(s string) { checkByForm(t, s) })
	each([]string{`"`, `\`, ` `, "\n", `#`, `a`}, 7, func(s string) { checkByForm(t, s) })
}

// 3.2: so are longer texts, of words and of what is nearly one.
func TestLongerLinesByForm(t *testing.T) {
	pieces := []string{" ", " ", " ", "  ", "\t", " # ", "\n", "\n", "a", "b9", "put", "0", "7", "-7", "15", `""`, `"a b"`, `"\""`, `"\\"`, `"\x0a"`, `"é"`, `"#"`}
	wrong := []string{`"`, `\`, "-", "A", "07", "\xff", "\r", `"\"`}
	r := rand.New(rand.NewPCG(3, 2))
	read := 0
	for range 60000 {
		var b strings.Builder
		for range 1 + r.IntN(12) {
			if r.IntN(40) == 0 {
				b.WriteString(wrong[r.IntN(len(wrong))])
			} else {
				b.WriteString(pieces[r.IntN(len(pieces))])
			}
			if r.IntN(3) > 0 {
				b.WriteByte(' ')
			}
		}
		checkByForm(t, b.String())
		if _, _, err := Lines(b.String()); err == api.OK {
			read++
		}
	}
	if read < 10000 {
		t.Errorf("no more than %d of the texts are read", read)
	}
}

// 3.2: what is answered is new memory, and no two lists share any.
func TestLinesAreNew(t *testing.T) {
	s := "a b\nc \"d\" 7\ne"
	want, _, _ := linesByForm(s)
	l, _, _ := Lines(s)
	for i := range l {
		x := append(l[i].Words, num(1), num(2), num(3))
		clear(x[len(l[i].Words):])
		clear(l[i].Words)
		for _, y := range l[i+1:] {
			if !sameWords(y.Words, want[y.No-1].Words) {
				t.Errorf("line %d shares memory with line %d", y.No, l[i].No)
			}
		}
	}
	if again, _, _ := Lines(s); !sameLines(again, want) {
		t.Errorf("a second reading answers %v", again)
	}
}

// 3.3: words of each kind, with one blank between each two.
func TestShow(t *testing.T) {
	for want, l := range map[string][]box.Box{
		``:                                 nil,
		`a`:                                words(name("a")),
		`0`:                                words(num(0)),
		`""`:                               words(text("")),
		`a "b c" -7`:                       words(name("a"), text("b c"), num(-7)),
		`7 7 "7" a7`:                       words(num(7), num(7), text("7"), name("a7")),
		`"a" "a" a`:                        words(text("a"), text("a"), name("a")),
		`" " "#" "\x09" "\x0a"`:            words(text(" "), text("#"), text("\t"), text("\n")),
		`"\"" "\\" "\\\"" "\xff"`:          words(text(`"`), text(`\`), text(`\"`), text("\xff")),
		`"é€" "A" "-"`:                     words(text("é€"), text("A"), text("-")),
		`999999999999999 -999999999999999`: words(num(999999999999999), num(-999999999999999)),
		strings.Repeat("z", 20) + " 10":    words(name(strings.Repeat("z", 20)), num(10)),
	} {
		if s, err := Show(l); s != want || err != api.OK {
			t.Errorf("Show(%v) = %q, %d, not %q", l, s, err, want)
		}
	}
	if s, err := Show(words()); s != "" || err != api.OK {
		t.Errorf("Show of no words = %q, %d", s, err)
	}
}

// 3.3: what can't be a word is refused, wherever it stands, and nothing is shown.
func TestShowRefuses(t *testing.T) {
	l := words(box.Box{}, num(1e15), num(-1e15), num(1e15+1), num(1<<60), num(math.MaxInt), num(math.MinInt), num(math.MinInt+1))
	for _, s := range []string{"", "A", "0", "7", "-1", "0a", "a b", "a ", " a", "a_b", "a\n", "a#", "#", `"a"`, "é", "aé", "\xff", "a\x00", strings.Repeat("a", 21), strings.Repeat("a", 30000)} {
		l = append(l, name(s))
	}
	for i, b := range l {
		for _, x := range [][]box.Box{words(b), words(name("a"), b), words(b, name("a")), words(num(1), b, text("x")), words(b, b)} {
			if s, err := Show(x); s != "" || err != api.ErrArg {
				t.Errorf("Show with the box %d of those refused = %s, %d", i, cut(s), err)
			}
		}
	}
}

// 3.3: what is shown isn't bounded by what is read.
func TestShowLong(t *testing.T) {
	long := strings.Repeat("a", api.MaxText+1)
	if s, err := Show(words(text(long), num(1))); s != `"`+long+`" 1` || err != api.OK {
		t.Errorf("Show of a long text = %s, %d", cut(s), err)
	}
	many := slices.Repeat(words(num(7)), api.MaxText)
	if s, err := Show(many); s != strings.Repeat("7 ", api.MaxText-1)+"7" || err != api.OK {
		t.Errorf("Show of many words = %s, %d", cut(s), err)
	}
}

// 3.3: the list that is handed in stays as it was, spare room included.
func TestShowChangesNothing(t *testing.T) {
	whole := words(name("a"), num(1), text("b"), num(2))
	was := slices.Clone(whole)
	Show(whole[:2])
	Show(whole[:3:3])
	if !sameWords(whole, was) {
		t.Errorf("Show changed what it was handed: %v", whole)
	}
}

// checkShown checks that words are read as they were, as one line, or as none.
func checkShown(t *testing.T, l []box.Box) {
	s, err := Show(l)
	if err != api.OK || strings.Contains(s, "\n") {
		t.Fatalf("Show(%v) = %s, %d", l, cut(s), err)
	}
	var want []Line
	if len(l) > 0 {
		want = []Line{{1, l}}
	}
	for _, s := range []string{s, s + "\n", s + " # x", "\t" + s} {
		if got, no, err := Lines(s); !sameLines(got, want) || no != 0 || err != api.OK {
			t.Fatalf("Lines(%s) = %v, %d, %d, not %v", cut(s), got, no, err, want)
		}
	}
}

// 3.4 (P8): each text of two bytes, and all lists of few words, are read as they were.
func TestReadAsItWas(t *testing.T) {
	for a := range 256 {
		checkShown(t, words(text(string([]byte{byte(a)}))))
		for b := range 256 {
			checkShown(t, words(text(string([]byte{byte(a), byte(b)})), num(a-b)))
		}
	}
	l := words(num(0), num(1), num(-1), num(1e14), num(999999999999999), num(-999999999999999), name("a"), name("z9"), name(strings.Repeat("a", 20)))
	for _, s := range []string{"", " ", "#", "\n", "\t", `"`, `\`, `\"`, `" "`, "a", "0", "é\xff", "\x00\x7f"} {
		l = append(l, text(s))
	}
	checkShown(t, nil)
	for _, a := range l {
		checkShown(t, words(a))
		for _, b := range l {
			checkShown(t, words(a, b))
			for _, c := range l {
				checkShown(t, words(a, b, c))
			}
		}
	}
}

// 3.4: lines that are shown, one behind the other, are read as they were.
func TestLinesReadAsTheyWere(t *testing.T) {
	var s strings.Builder
	var want []Line
	for no := 1; no <= 60; no++ {
		var l []box.Box
		for i := range no % 4 {
			c := string([]byte{byte(no), byte(4*no + i), '"', '\n'})
			l = append(l, text(c), num(no*i-30), name("a"+strconv.Itoa(no)))
		}
		if len(l) > 0 {
			want = append(want, Line{no, l})
		}
		shown, err := Show(l)
		if err != api.OK {
			t.Fatal(l, err)
		}
		s.WriteString(shown + "\n")
	}
	if l, no, err := Lines(s.String()); !sameLines(l, want) || no != 0 || err != api.OK {
		t.Errorf("Lines = %v, %d, %d, not %v", l, no, err, want)
	}
}
