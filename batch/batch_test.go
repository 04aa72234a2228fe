package batch

import (
	"reflect"
	"slices"
	"strconv"
	"strings"
	"testing"

	"rundle/api"
	"rundle/key"
)

// has is an entry of a key that has a value, gone one of a key that goes.
func has(k, v string) api.Entry { return api.Entry{Key: k, Value: v} }
func gone(k string) api.Entry   { return api.Entry{Key: k, Gone: true} }

// odd is an entry that is gone and has a value all the same.
func odd(k, v string) api.Entry { return api.Entry{Key: k, Value: v, Gone: true} }

// to and from are short names for spans with an end, and without one.
func to(lo, hi string) key.Span { return key.Span{Lo: lo, Hi: hi} }
func onward(lo string) key.Span { return key.Span{Lo: lo, All: true} }

// list is entries told shortly: a=1 has a value, b= an empty one, c! is gone.
func list(s string) []api.Entry {
	var l []api.Entry
	for _, w := range strings.Fields(s) {
		k, v, ok := strings.Cut(w, "=")
		if ok {
			l = append(l, has(k, v))
		} else {
			l = append(l, gone(strings.TrimSuffix(w, "!")))
		}
	}
	return l
}

// lists are lists of entries told shortly, each up to the next / of the text; no text is no list.
func lists(s string) [][]api.Entry {
	if s == "" {
		return nil
	}
	var out [][]api.Entry
	for _, w := range strings.Split(s, "/") {
		out = append(out, list(w))
	}
	return out
}

// show tells entries in few bytes.
func show(l []api.Entry) string {
	var s []string
	for i, e := range l {
		if i == 12 {
			s = append(s, "..", strconv.Itoa(len(l)))
			break
		}
		w := strconv.Quote(short(e.Key)) + "=" + strconv.Quote(short(e.Value))
		if e.Gone {
			w += "!"
		}
		s = append(s, w)
	}
	return "[" + strings.Join(s, " ") + "]"
}

func short(s string) string {
	if len(s) > 12 {
		return s[:12] + ".." + strconv.Itoa(len(s))
	}
	return s
}

// less is the order of texts, told once more, byte by byte.
func less(a, b string) bool {
	for i := range len(b) {
		if i == len(a) || a[i] != b[i] {
			return i == len(a) || a[i] < b[i]
		}
	}
	return false
}

// lies is lying in a span, told once more.
func lies(s key.Span, k string) bool { return !less(k, s.Lo) && (s.All || less(k, s.Hi)) }

// same tells whether two lists of lists are the same; lists without elements are one.
func same(a, b [][]api.Entry) bool { return slices.EqualFunc(a, b, slices.Equal[[]api.Entry]) }

// many are so many entries of unlike keys, in an order that neither rises nor falls, each fifth one of them gone.
func many(n int) []api.Entry {
	l := make([]api.Entry, n)
	for i := range l {
		k := "k" + strconv.Itoa(100000+i*7919%n)
		if i%5 == 4 {
			l[i] = gone(k)
		} else {
			l[i] = has(k, strconv.Itoa(i))
		}
	}
	return l
}

// put is a list with an entry put in at a place.
func put(l []api.Entry, at int, e api.Entry) []api.Entry {
	return slices.Insert(slices.Clone(l), at, e)
}

// 9.1: lists that are batches.
func TestCheckTakes(t *testing.T) {
	if api.MaxBatch != 4096 || api.MaxKey != 1024 || api.MaxValue != 65536 {
		t.Fatal("the limits are others")
	}
	top, big := strings.Repeat("k", 1024), strings.Repeat("v", 65536)
	for i, l := range [][]api.Entry{
		list("a=1"), list("a="), list("a!"),
		// In whatever order.
		list("a=1 b=2"), list("b=2 a=1"), list("b! a=1 c= d! aa!"), list("c=1 b=1 a=1"),
		// Keys and values may be any bytes, and values may be the same, or that of a key.
		{has("\x00", "\x00"), has("\xff\xfe", "\xe2\x82"), has(" ", "\n"), has("\"", "")},
		list("a=1 b=1 c=1"), list("a=b b=a"), list("a! b! c!"),
		// Keys that are nearly the same.
		{has("a", "1"), has("a\x00", "1"), has("A", "1"), has("aa", "1"), gone("a "), gone("\x00a")},
		{has("é", ""), has("e\xcc\x81", ""), has("\xc3", ""), has("\xa9", "")},
		// Of all bytes that a key, and a value, may have.
		{has(top, "1")}, {gone(top)}, {has("a", big)}, {has(top, big)}, {has(strings.Repeat("\xff", 1024), strings.Repeat("\x00", 65536))},
		{has(top, "1"), has(top[:1023], "1"), has(top[:1023]+"l", "1"), gone("l" + top[:1023])},
		{has("a", big), has("b", big), has("c", big)},
		{has(strings.Repeat("é", 512), strings.Repeat("é", 32768))},
		// Of as many entries as may be.
		many(2), many(255), many(256), many(257), many(4095), many(4096), Sorted(many(4096)),
	} {
		if err := Check(l); err != api.OK {
			t.Errorf("%d: Check of %s = %d", i, show(l), err)
		}
	}
}

// 9.1: lists that are too short, or too long, whatever is in them.
func TestCheckRefusesLengths(t *testing.T) {
	for i, l := range [][]api.Entry{nil, {}, make([]api.Entry, 0, 5), many(4097), many(4098), many(8192), many(65537), Sorted(many(4097)), make([]api.Entry, 4097), put(many(4096), 4096, gone("a")), put(many(4096), 0, has("k100000", ""))} {
		if err := Check(l); err != api.ErrInvalid {
			t.Errorf("%d: Check of %d entries = %d", i, len(l), err)
		}
	}
}

// 9.1: an entry that may be in no batch, alone, first, in the midst, and last, of few and of many.
func TestCheckRefusesEntries(t *testing.T) {
	top, big := strings.Repeat("k", 1025), strings.Repeat("v", 65537)
	for _, e := range []api.Entry{
		{}, has("", "1"), gone(""), odd("", "1"),
		has(top, "1"), has(top, ""), gone(top), has(strings.Repeat("é", 513), ""), has(strings.Repeat("k", 2048), ""), has(big, ""),
		has("x", big), has("x", strings.Repeat("é", 32769)), has("x", big+big), has(top, big), has("", big),
		odd("x", "1"), odd("x", "\x00"), odd("x", "x"), odd("x", big[:65536]), odd("x", big), odd(top, "1"),
	} {
		for _, l := range [][]api.Entry{nil, list("a=1"), list("c=1 b! a="), many(20), many(4095)} {
			for _, at := range []int{0, len(l) / 2, len(l)} {
				if err := Check(put(l, at, e)); err != api.ErrInvalid {
					t.Errorf("Check of %s at %d of %d others = %d", show([]api.Entry{e}), at, len(l), err)
				}
			}
		}
	}
}

// 9.1: a key twice, side by side and far apart, with one value, with two, and gone; the chapter's example.
func TestCheckRefusesTwice(t *testing.T) {
	for _, s := range []string{
		"a=1 a=1", "a=1 a=2", "a=2 a=1", "a= a=", "a! a!", "a=1 a!", "a! a=1", "a= a!",
		"a=1 b=2 a=3", "b=1 a=2 b=3", "a=1 a=2 b=3", "b=3 a=1 a=2", "b! a=1 a=2", "a=1 a=1 a=1",
		"c=1 d=2 a=3 b=4 c!", "e=1 d=2 c=3 b=4 a=5 e=6", "a=1 b=2 c=3 d=4 d=5", "a=1 aa=1 ab=1 a=2", "a=1 aa=1 aa=2 ab=1",
	} {
		if err := Check(list(s)); err != api.ErrInvalid {
			t.Errorf("Check of %s = %d", s, err)
		}
	}
	for _, n := range []int{13, 100, 1000, 4095} {
		l := many(n)
		for _, from := range []int{0, 1, n / 3, n / 2, n - 2, n - 1} {
			for _, at := range []int{0, from, from + 1, n / 2, n - 1, n} {
				for _, e := range []api.Entry{l[from], has(l[from].Key, "other"), gone(l[from].Key)} {
					if err := Check(put(l, at, e)); err != api.ErrInvalid {
						t.Fatalf("Check of %d entries, that at %d once more at %d = %d", n, from, at, err)
					}
				}
			}
		}
	}
	long := strings.Repeat("k", 1023)
	if err := Check([]api.Entry{has(long+"a", ""), has(long+"b", ""), has(long+"a", "")}); err != api.ErrInvalid {
		t.Errorf("Check of a long key twice = %d", err)
	}
}

// 9.1: all lists of up to three of some entries, good ones and others, held against the chapter's words.
func TestCheckByTheWords(t *testing.T) {
	all := []api.Entry{has("a", ""), has("a", "v"), gone("a"), odd("a", "v"), has("b", ""), gone("b"), has("a\x00", "v"), has("", "v"), gone(""), has("c", strings.Repeat("v", 65537)), has(strings.Repeat("c", 1025), "")}
	tried := [][]api.Entry{nil}
	for at := 0; at < len(tried); at++ {
		l := tried[at]
		good := len(l) >= 1 && len(l) <= 4096
		for i, e := range l {
			if len(e.Key) < 1 || len(e.Key) > 1024 || len(e.Value) > 65536 || e.Gone && len(e.Value) > 0 {
				good = false
			}
			for _, f := range l[:i] {
				if !less(e.Key, f.Key) && !less(f.Key, e.Key) {
					good = false
				}
			}
		}
		if err := Check(l); good && err != api.OK || !good && err != api.ErrInvalid {
			t.Fatalf("Check of %s = %d", show(l), err)
		}
		for _, e := range all {
			if len(l) < 3 {
				tried = append(tried, append(slices.Clone(l), e))
			}
		}
	}
}

// laid is entries by rising keys, told once more: each one behind all that aren't greater.
func laid(l []api.Entry) []api.Entry {
	var out []api.Entry
	for _, e := range l {
		at := len(out)
		for at > 0 && less(e.Key, out[at-1].Key) {
			at--
		}
		out = slices.Insert(out, at, e)
	}
	return out
}

// 9.1: entries that rise, that fall, and of which several are of one key.
func TestSorted(t *testing.T) {
	for s, want := range map[string]string{
		"":                              "",
		"a=1":                           "a=1",
		"a!":                            "a!",
		"a=1 b=2 c=3":                   "a=1 b=2 c=3",
		"c=3 b=2 a=1":                   "a=1 b=2 c=3",
		"b=2 a=1":                       "a=1 b=2",
		"b! a= c=3":                     "a= b! c=3",
		"b=9 a=10 10=a 9=b":             "10=a 9=b a=10 b=9",
		"a=2 a=1":                       "a=2 a=1",
		"a=1 a=2":                       "a=1 a=2",
		"a! a=1 a!":                     "a! a=1 a!",
		"a=1 a! a=1":                    "a=1 a! a=1",
		"b=3 a=2 b=1 a=1 b=2":           "a=2 a=1 b=3 b=1 b=2",
		"c=1 b=2 c=0 a=9 b! c! a=8":     "a=9 a=8 b=2 b! c=1 c=0 c!",
		"aa=1 a=1 B=1 b=1 ab=1 é=1 ~=1": "B=1 a=1 aa=1 ab=1 b=1 ~=1 é=1",
	} {
		if l := Sorted(list(s)); !slices.Equal(l, list(want)) {
			t.Errorf("Sorted of %s = %s", s, show(l))
		}
	}
	// What is no batch is sorted, too.
	l := []api.Entry{odd("x", "1"), has("\xff", ""), has("", "2"), gone("\x00"), has(strings.Repeat("x", 70000), ""), has("", "1"), odd("", "3")}
	if s := Sorted(l); !slices.Equal(s, []api.Entry{l[2], l[5], l[6], l[3], l[0], l[4], l[1]}) {
		t.Errorf("Sorted of %s = %s", show(l), show(s))
	}
	if len(Sorted(nil)) != 0 || len(Sorted([]api.Entry{})) != 0 {
		t.Error("Sorted of no entries has some")
	}
}

// 9.1: in lists of many, too, those of one key stay in their order.
func TestSortedStays(t *testing.T) {
	for _, n := range []int{2, 12, 13, 20, 21, 50, 51, 64, 100, 257, 1000} {
		for _, keys := range []int{1, 2, 3, 7, n} {
			for _, step := range []int{1, 7919, n - 1} {
				l := make([]api.Entry, n)
				for i := range l {
					l[i] = has("k"+strconv.Itoa(i*step%n%keys), strconv.Itoa(i))
				}
				if s := Sorted(l); !slices.Equal(s, laid(l)) {
					t.Fatalf("Sorted of %d entries of %d keys (%d) = %s", n, keys, step, show(s))
				}
			}
		}
	}
}

// 9.1: lists of more entries than a batch may have are sorted, those that rise and those that fall among them.
func TestSortedOfMany(t *testing.T) {
	up := make([]api.Entry, 20000)
	for i := range up {
		up[i] = has("k"+strconv.Itoa(100000+i), strconv.Itoa(i))
	}
	down := slices.Clone(up)
	slices.Reverse(down)
	for i, l := range [][]api.Entry{up, down, append(slices.Clone(up[10000:]), up[:10000]...)} {
		if s := Sorted(l); !slices.Equal(s, up) {
			t.Errorf("%d: Sorted = %s", i, show(s))
		}
	}
}

// 9.2: the first ones, up to the first one that doesn't lie in the span.
func TestWithin(t *testing.T) {
	for _, x := range []struct {
		l    string
		sp   key.Span
		want string
	}{
		{"", key.Whole(), ""}, {"", to("a", "c"), ""}, {"", to("c", "a"), ""},
		// All do, none does, the first one doesn't.
		{"a=1 b! c=", key.Whole(), "a=1 b! c="}, {"a=1 b! c=", to("a", "d"), "a=1 b! c="}, {"a=1 b! c=", to("a", "c0"), "a=1 b! c="},
		{"a=1", to("b", "c"), ""}, {"c=1", to("b", "c"), ""}, {"a=1 b=2 bb=3", to("b", "c"), ""}, {"c=1 b=2 bb=3", to("b", "c"), ""}, {"a=1 b=2 c=3", onward("b"), ""},
		// One in the midst doesn't, or the last one, and others behind it do.
		{"a=1 b=2 c=3", to("a", "c"), "a=1 b=2"}, {"a=1 b=2 c=3 d=4", to("a", "c"), "a=1 b=2"}, {"b=1 a=2 b=3", to("b", "c"), "b=1"}, {"b=1 c=2 bb=3", to("b", "c"), "b=1"}, {"b=1 bb! c! bb! b=2", to("b", "c"), "b=1 bb!"}, {"d=1 c=2 b=3 a=4", onward("b"), "d=1 c=2 b=3"}, {"d=1 a=2 b=3", onward("b"), "d=1"},
		// In whatever order, also a key several times, gone or not.
		{"c=3 a=1 b=2", to("a", "d"), "c=3 a=1 b=2"}, {"a=1 a=2 a!", to("a", "b"), "a=1 a=2 a!"}, {"a=1 a=1 b=1 a=1", to("a", "b"), "a=1 a=1"}, {"a! b!", to("a", "b"), "a!"},
		// At the very ends.
		{"a=1 b=2", to("a", "b"), "a=1"}, {"b=2 a=1", to("a", "b"), ""}, {"a=1 aa=2 b=3", to("a", "aa"), "a=1"}, {"a=1 aa=2 b=3", to("a", "aa0"), "a=1 aa=2"}, {"A=1 a=2", onward("a"), ""},
		// A Hi that counts for nothing.
		{"a=1 b=2 c=3", key.Span{Lo: "a", Hi: "b", All: true}, "a=1 b=2 c=3"}, {"b=1 a=2", key.Span{Lo: "b", Hi: "a", All: true}, "b=1"},
		// Spans that are empty, or aren't good.
		{"a=1 b=2", to("a", "a"), ""}, {"b=1", to("b", "b"), ""}, {"a=1 b=2 c=3", to("c", "a"), ""}, {"b=2", to("c", "a"), ""}, {"a=1", to("a", ""), ""}, {"c=1", to("c", "a"), ""},
	} {
		if l := Within(list(x.l), x.sp); !slices.Equal(l, list(x.want)) {
			t.Errorf("Within of %s and %+v = %s", x.l, x.sp, show(l))
		}
	}
	// Entries that may be in no batch count as any others.
	l := []api.Entry{has("", "1"), odd("", "2"), odd("a", "v"), has(strings.Repeat("a", 70000), ""), has("b", "")}
	if s := Within(l, to("", "b")); !slices.Equal(s, l[:4]) {
		t.Errorf("Within of %s = %s", show(l), show(s))
	}
	if s := Within(l, onward("\x00")); len(s) != 0 {
		t.Errorf("Within of %s = %s", show(l), show(s))
	}
	if s := Within(many(20000), key.Whole()); !slices.Equal(s, many(20000)) {
		t.Errorf("Within of many = %s", show(s))
	}
}

// 9.2: all lists of up to four keys and all spans of these, held against the chapter's words.
func TestWithinByTheWords(t *testing.T) {
	keys := []string{"", "a", "a\x00", "b"}
	tried := [][]api.Entry{nil}
	for at := 0; at < len(tried); at++ {
		l := tried[at]
		for _, sp := range spans(keys...) {
			n := 0
			for n < len(l) && lies(sp, l[n].Key) {
				n++
			}
			if s := Within(l, sp); !slices.Equal(s, l[:n]) {
				t.Fatalf("Within of %s and %+v = %s", show(l), sp, show(s))
			}
		}
		for i, k := range keys {
			if len(l) < 4 {
				tried = append(tried, append(slices.Clone(l), has(k, strconv.Itoa(len(l)+i))))
			}
		}
	}
}

// spans are all spans of these texts, good or not, and those without an end with each Hi, too.
func spans(l ...string) []key.Span {
	var all []key.Span
	for _, lo := range l {
		for _, hi := range l {
			all = append(all, to(lo, hi), key.Span{Lo: lo, Hi: hi, All: true})
		}
	}
	return all
}

// 9.3: by spans that join, leave something out, overlap, stand in the wrong order, are empty, or aren't good.
func TestParts(t *testing.T) {
	for _, x := range []struct {
		l     string
		spans []key.Span
		want  string
	}{
		// No spans, and no entries.
		{"", nil, ""}, {"a=1 b=2", nil, ""}, {"a=1", []key.Span{}, ""},
		{"", []key.Span{key.Whole()}, " "}, {"", []key.Span{to("a", "b"), to("b", "c"), onward("c")}, "//"}, {"", []key.Span{to("c", "a"), to("", "")}, "/"},
		// One span.
		{"b=2 a! c=", []key.Span{key.Whole()}, "a! b=2 c="}, {"c=3 b=2 a=1", []key.Span{to("a", "c")}, "a=1 b=2"}, {"c=3 b=2 a=1", []key.Span{onward("b")}, "b=2 c=3"}, {"c=3 b=2 a=1", []key.Span{to("b", "c")}, "b=2"}, {"a=1", []key.Span{to("b", "c")}, " "}, {"c=1", []key.Span{to("b", "c")}, " "},
		// Entries below the first one's Lo are in no list.
		{"a=1 b=2 c=3 d=4", []key.Span{to("c", "d"), onward("d")}, "c=3/d=4"}, {"a=1 b=2", []key.Span{to("c", "d"), onward("d")}, "/"}, {"d=4 a=1 b! c=3", []key.Span{to("b0", "d"), to("d", "e")}, "c=3/d=4"},
		// Spans that join.
		{"f=6 e=5 d=4 c=3 b=2 a=1", []key.Span{to("", "c"), to("c", "d"), onward("d")}, "a=1 b=2/c=3/d=4 e=5 f=6"}, {"a=1 e=5", []key.Span{to("", "b"), to("b", "e"), onward("e")}, "a=1//e=5"}, {"c=3 a=1", []key.Span{to("a", "b"), to("b", "c"), to("c", "d"), onward("d")}, "a=1//c=3/"},
		// The last one has an end: what lies beyond is in no list.
		{"a=1 b=2 c=3 d=4", []key.Span{to("a", "b"), to("b", "d")}, "a=1/b=2 c=3"}, {"x=1 y=2", []key.Span{to("a", "b"), to("b", "d")}, "/"},
		// Something is left out between them: what lies there is in no list, and the others go on behind it.
		{"a=1 b=2 c=3 d=4", []key.Span{to("a", "b"), to("c", "d")}, "a=1/c=3"}, {"a=1 b=2 bb=3 c=4 d=5", []key.Span{to("a", "b"), onward("c")}, "a=1/c=4 d=5"}, {"a=1 d=4", []key.Span{to("a", "b"), to("b", "c"), to("e", "f")}, "a=1//"},
		// Spans that overlap: the earlier one has what both could have.
		{"a=1 b=2 c=3 d=4", []key.Span{to("a", "c"), to("b", "e")}, "a=1 b=2/c=3 d=4"}, {"a=1 b=2 c=3 d=4", []key.Span{to("a", "d"), to("b", "c")}, "a=1 b=2 c=3/"}, {"a=1 b=2 c=3 d=4", []key.Span{to("a", "d"), to("b", "c"), to("b", "e")}, "a=1 b=2 c=3//d=4"}, {"a=1 b=2 c=3", []key.Span{key.Whole(), key.Whole()}, "a=1 b=2 c=3/"}, {"a=1 b=2 c=3", []key.Span{to("a", "b"), to("a", "b"), to("a", "c"), key.Whole()}, "a=1//b=2/c=3"},
		// Spans in the wrong order: what one begins beyond, no later one has.
		{"a=1 b=2 c=3", []key.Span{onward("b"), to("a", "b")}, "b=2 c=3/"}, {"a=1 b=2 c=3", []key.Span{to("b", "c"), to("a", "b"), to("c", "d")}, "b=2//c=3"}, {"a=1 b=2 c=3", []key.Span{to("b", "c"), key.Whole()}, "b=2/c=3"}, {"a=1 b=2 c=3", []key.Span{onward("x"), key.Whole()}, "/"}, {"a=1 b=2 c=3", []key.Span{to("c", "d"), to("b", "c"), to("a", "b"), key.Whole()}, "c=3///"},
		// Spans that are empty have none, but leave out what they begin beyond.
		{"a=1 b=2 c=3", []key.Span{to("b", "b"), key.Whole()}, "/b=2 c=3"}, {"a=1 b=2 c=3", []key.Span{to("", ""), key.Whole()}, "/a=1 b=2 c=3"}, {"a=1 b=2 c=3", []key.Span{to("a", "b"), to("b", "b"), onward("b")}, "a=1//b=2 c=3"}, {"a=1 b=2", []key.Span{to("c", "c"), to("a", "c")}, "/"},
		// So have those that aren't good.
		{"a=1 b=2 c=3", []key.Span{to("b", "a"), key.Whole()}, "/b=2 c=3"}, {"a=1 b=2 c=3", []key.Span{to("c", "a"), onward("a")}, "/c=3"}, {"a=1 b=2 c=3", []key.Span{to("a", ""), key.Whole()}, "/a=1 b=2 c=3"}, {"a=1 b=2 c=3", []key.Span{to("a", "b"), to("d", "b"), key.Whole()}, "a=1//"},
		// A Hi that counts for nothing.
		{"a=1 b=2 c=3", []key.Span{{Lo: "b", Hi: "c", All: true}, onward("c")}, "b=2 c=3/"}, {"a=1 b=2 c=3", []key.Span{{Lo: "b", Hi: "a", All: true}}, "b=2 c=3"},
		// Those of one key stay side by side, in their order.
		{"b=2 a=2 b=1 a=1 a! b!", []key.Span{to("a", "b"), onward("b")}, "a=2 a=1 a!/b=2 b=1 b!"}, {"b=2 a=2 b=1 a=1", []key.Span{onward("a0")}, "b=2 b=1"}, {"a=2 a=1", []key.Span{to("a", "a"), to("a", "a0"), onward("a")}, "/a=2 a=1/"},
	} {
		want := lists(x.want)
		if p := Parts(list(x.l), x.spans...); !same(p, want) || len(p) != len(x.spans) {
			t.Errorf("Parts of %s and %+v: %d, %v", x.l, x.spans, len(p), p)
		}
	}
}

// 9.3: the spans come one by one, too; and entries need be no batch.
func TestPartsTakes(t *testing.T) {
	l := list("c=3 a=1 b=2")
	if p := Parts(l, to("a", "b"), to("b", "c"), onward("c")); !same(p, lists("a=1/b=2/c=3")) {
		t.Errorf("Parts: %v", p)
	}
	if p := Parts(l); len(p) != 0 {
		t.Errorf("Parts: %v", p)
	}
	if p := Parts(nil); len(p) != 0 {
		t.Errorf("Parts of nothing: %v", p)
	}
	if p := Parts(nil, key.Whole(), key.Whole()); len(p) != 2 || len(p[0]) != 0 || len(p[1]) != 0 {
		t.Errorf("Parts of no entries: %v", p)
	}
	big := strings.Repeat("b", 70000)
	l = []api.Entry{odd("x", "1"), has(big, big), gone(""), odd("", "2"), has("\xff", "")}
	if p := Parts(l, to("", "\x00"), to("b", "c"), onward("\xff")); !same(p, [][]api.Entry{{l[2], l[3]}, {l[1]}, {l[4]}}) {
		t.Errorf("Parts of what is no batch: %d lists", len(p))
	}
}

// parted is the chapter's parts, told once more: of each entry it is kept in mind whether a list has it, or it is left out.
func parted(l []api.Entry, spans []key.Span) [][]api.Entry {
	l = laid(l)
	away := make([]bool, len(l))
	var out [][]api.Entry
	for _, sp := range spans {
		var part []api.Entry
		ended := false
		for i, e := range l {
			switch {
			case away[i]:
			case less(e.Key, sp.Lo):
				away[i] = true
			case ended || !lies(sp, e.Key):
				ended = true
			default:
				part, away[i] = append(part, e), true
			}
		}
		out = append(out, part)
	}
	return out
}

// 9.3: all pairs of spans, and three of them, of few texts, held against the chapter's words.
func TestPartsByTheWords(t *testing.T) {
	texts := []string{"", "a", "b", "c"}
	all := spans(texts...)
	for _, l := range [][]api.Entry{list("c=1 a=2 b=3"), {has("b", "1"), has("", "2"), gone("b"), has("a\x00", "3"), has("c", "4")}, list("a=1 a=2"), list("d=1 c=2 b=3 bb! a=4 aa=5")} {
		for _, a := range all {
			for _, b := range all {
				if p := Parts(l, a, b); !same(p, parted(l, []key.Span{a, b})) {
					t.Fatalf("Parts of %s and %+v, %+v = %v", show(l), a, b, p)
				}
				for _, c := range all {
					if p := Parts(l, a, b, c); !same(p, parted(l, []key.Span{a, b, c})) {
						t.Fatalf("Parts of %s and %+v, %+v, %+v = %v", show(l), a, b, c, p)
					}
				}
			}
		}
	}
}

// 9.3: many entries, by many spans of all kinds.
func TestPartsOfMany(t *testing.T) {
	word := uint32(1)
	draw := func(n int) int {
		word = word*1664525 + 1013904223
		return int(word>>8) % n
	}
	for range 300 {
		var l []api.Entry
		for i := range draw(120) {
			l = append(l, has("k"+strconv.Itoa(draw(100)), strconv.Itoa(i)))
		}
		var sp []key.Span
		for i := range draw(30) {
			lo := draw(20) + i*3
			sp = append(sp, key.Span{Lo: "k" + strconv.Itoa(lo), Hi: "k" + strconv.Itoa(lo+draw(20)-5), All: draw(30) == 0})
		}
		if p := Parts(l, sp...); !same(p, parted(l, sp)) {
			t.Fatalf("Parts of %s and %+v = %v", show(l), sp, p)
		}
	}
	// As many entries as may be, each with a span of its own.
	l := many(4096)
	var sp []key.Span
	var want [][]api.Entry
	for _, e := range Sorted(l) {
		sp, want = append(sp, to(e.Key, key.After(e.Key))), append(want, []api.Entry{e})
	}
	if p := Parts(l, sp...); !same(p, want) {
		t.Errorf("Parts by as many spans: %d lists", len(p))
	}
}

// joined are good spans that join one another at these texts, which don't fall; the last one has no end.
func joined(at ...string) []key.Span {
	var l []key.Span
	for i, lo := range at {
		if i+1 < len(at) {
			l = append(l, to(lo, at[i+1]))
		} else {
			l = append(l, onward(lo))
		}
	}
	return l
}

// 9.4: each entry from the first one's Lo on is in just one list, in that of the span in which it lies.
func TestEachIsInOneList(t *testing.T) {
	texts := []string{"", "\x00", "a", "a\x00", "b", "c", "\xff"}
	l := []api.Entry{has("c", "1"), has("a", "2"), gone("b"), has("a", "3"), has("", "4"), has("\xff\xff", "5"), has("a\x00", "6"), has("bb", "7"), gone("a"), has("\x00\x00", "8")}
	tried := [][]string{nil}
	for at := 0; at < len(tried); at++ {
		cuts := tried[at]
		if len(cuts) > 0 {
			inOneList(t, l, joined(cuts...))
		}
		for _, k := range texts {
			if len(cuts) < 5 && (len(cuts) == 0 || cuts[len(cuts)-1] <= k) {
				tried = append(tried, append(slices.Clone(cuts), k))
			}
		}
	}
	inOneList(t, l, []key.Span{to("", "a"), {Lo: "a", Hi: "", All: true}})
	inOneList(t, many(4096), joined("", "k1005", "k1010", "k1010", "k103", "k104095", "k2"))
	inOneList(t, many(1000), joined("k100500", "k100501", "k1006"))
}

// inOneList holds the lists of such spans against each entry.
func inOneList(t *testing.T, l []api.Entry, spans []key.Span) {
	t.Helper()
	for i, s := range spans {
		if !key.Good(s) || i > 0 && !key.Joins(spans[i-1], s) || s.All != (i == len(spans)-1) {
			t.Fatalf("%+v are no such spans", spans)
		}
	}
	p := Parts(l, spans...)
	if len(p) != len(spans) {
		t.Fatalf("Parts by %+v: %d lists", spans, len(p))
	}
	met := map[api.Entry]int{}
	for i, part := range p {
		for j, e := range part {
			if !lies(spans[i], e.Key) || j > 0 && less(e.Key, part[j-1].Key) {
				t.Fatalf("Parts by %+v: %s stands in the list %d", spans, show([]api.Entry{e}), i)
			}
			met[e]++
		}
	}
	all := 0
	for _, e := range l {
		if n := met[e]; n != 0 && n != 1 || (n == 1) == less(e.Key, spans[0].Lo) {
			t.Fatalf("Parts by %+v: %s is in %d lists", spans, show([]api.Entry{e}), n)
		}
		all += met[e]
	}
	if all != len(slices.Concat(p...)) {
		t.Fatalf("Parts by %+v: %v", spans, p)
	}
}

// spared is a list with spare room behind it, and what there stands.
func spared(l []api.Entry) ([]api.Entry, []api.Entry) {
	room := append(slices.Clone(l), has("spare", "1"), gone("room"), has("a", "3"))
	return room[:len(l)], room
}

// Rule 4: what is handed in is neither changed nor kept, nor is the room behind it.
func TestHandedInStays(t *testing.T) {
	spans := []key.Span{to("", "b"), to("b", "d"), onward("d"), to("x", "a"), key.Whole()}
	for _, s := range []string{"", "a=1", "a=1 b=2 c=3", "c=3 b=2 a=1", "b! a=1 b=2 a!", "e=1 d=2 c! b= a=5"} {
		l, room := spared(list(s))
		kept, by := slices.Clone(room), slices.Clone(spans)
		Check(l)
		sorted, within, parts := Sorted(l), Within(l, key.Whole()), Parts(l, by[:3]...)
		if !slices.Equal(room, kept) || !slices.Equal(by, spans) {
			t.Errorf("%s: handed in, then %s and %+v", s, show(room), by)
		}
		for i := range room {
			room[i] = odd("other", "value")
		}
		for i := range by {
			by[i] = key.Span{}
		}
		if !slices.Equal(sorted, laid(list(s))) || !slices.Equal(within, list(s)) || !same(parts, parted(list(s), spans[:3])) {
			t.Errorf("%s: kept what was handed in: %s, %s, %v", s, show(sorted), show(within), parts)
		}
	}
	// Refused lists stay, too.
	for _, x := range [][]api.Entry{{has("b", "1"), has("a", "2"), has("b", "3")}, {has("b", "1"), has("", "2")}, {odd("b", "1"), has("a", "2")}, many(4097)} {
		l, room := spared(x)
		kept := slices.Clone(room)
		if Check(l) != api.ErrInvalid || !slices.Equal(room, kept) {
			t.Errorf("refused, then %s", show(room))
		}
	}
}

// written is a list, and the room behind it, written over.
func written(l []api.Entry) {
	l = l[:cap(l)]
	for i := range l {
		l[i] = odd("other", "value")
	}
}

// Rule 4: what is handed out is new memory, spare room included; whoever writes there changes neither what was handed in, nor any other answer.
func TestAnswersAreNew(t *testing.T) {
	for _, s := range []string{"", "a=1", "a=1 b=2 c=3 d=4 e=5", "e=1 d=2 c! b= a=5", "b! a=1 b=2 a!"} {
		l, room := spared(list(s))
		kept := slices.Clone(room)
		spans := []key.Span{to("", "b"), to("b", "b"), to("b", "c"), to("d", "e"), onward("e"), key.Whole()}
		written(Sorted(l))
		for _, sp := range spans {
			written(Within(l, sp))
		}
		want := parted(list(s), spans)
		for i := range spans {
			p := Parts(l, spans...)
			written(p[i])
			for j := range p {
				if j != i && !slices.Equal(p[j], want[j]) {
					t.Errorf("%s: written into the list %d, then %d is %s", s, i, j, show(p[j]))
				}
			}
			for j := range p {
				if j != i {
					p[j] = append(p[j], gone("more"))
				}
			}
			if len(p[i]) > 0 && p[i][len(p[i])-1] != odd("other", "value") {
				t.Errorf("%s: lists share their room: %v", s, p)
			}
		}
		if !slices.Equal(room, kept) {
			t.Errorf("%s: written into answers, then %s", s, show(room))
		}
		if !slices.Equal(Sorted(l), laid(list(s))) || !same(Parts(l, spans...), want) {
			t.Errorf("%s: written into answers, then answered otherwise", s)
		}
	}
	// Lists that have no elements have no room of others' either.
	l, room := spared(nil)
	kept := slices.Clone(room)
	for _, m := range [][]api.Entry{Sorted(l), Within(l, key.Whole()), Within(room, to("z", "a")), Parts(room, to("z", "a"))[0]} {
		written(append(m, gone("more")))
	}
	if !slices.Equal(room, kept) {
		t.Errorf("appended to answers, then %s", show(room))
	}
}

// Rule 6: the same answers again, whatever was called meanwhile.
func TestSameAgain(t *testing.T) {
	l, m := list("c=1 b=2 c=0 a=9 b! c! a=8"), many(100)
	all := func() []any {
		return []any{Check(l), Sorted(l), Within(l, onward("b")), Parts(l, to("a", "b"), onward("b0")), Check(m), Sorted(m), Within(m, key.Whole()), Parts(m, joined("", "k1000", "k10005")...)}
	}
	first := all()
	for range 20 {
		if again := all(); !reflect.DeepEqual(again, first) {
			t.Fatalf("%v, then %v", first, again)
		}
	}
}

// The chapter's example: two entries of one key.
func TestExample(t *testing.T) {
	if err := Check([]api.Entry{{Key: "a", Value: "1"}, {Key: "a", Value: "2"}}); err != 1 {
		t.Errorf("Check = %d", err)
	}
}
