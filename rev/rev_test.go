package rev

import (
	"maps"
	"math"
	"reflect"
	"slices"
	"strconv"
	"strings"
	"testing"

	"rundle/api"
	"rundle/key"
	"rundle/pace"
	"rundle/probe"
)

// has is an entry of a key that has a value, gone one of a key that goes.
func has(k, v string) api.Entry { return api.Entry{Key: k, Value: v} }
func gone(k string) api.Entry   { return api.Entry{Key: k, Gone: true} }

// span is all texts from lo on that are less than hi, from all of them from lo on.
func span(lo, hi string) key.Span { return key.Span{Lo: lo, Hi: hi} }
func from(lo string) key.Span     { return key.Span{Lo: lo, All: true} }

// list is entries told shortly: a=1 has a value, b= an empty one, c! is gone.
func list(s string) []api.Entry {
	var l []api.Entry
	for _, w := range strings.Fields(s) {
		k, v, ok := strings.Cut(w, "=")
		if ok {
			l = append(l, has(k, v))
		} else {
			l = append(l, gone(strings.TrimSuffix(w, "!")))
		}
	}
	return l
}

// made is the revision of entries that may be.
func made(t *testing.T, version, rate int, sp key.Span, l []api.Entry) Rev {
	t.Helper()
	r, err := New(version, rate, sp, l)
	if err != api.OK {
		t.Fatalf("New(%d, %d, %v, %v): %d", version, rate, sp, l, err)
	}
	return r
}

// laid is what a revision is, told once more, place by place from its entries.
func laid(version, rate int, sp key.Span, l []api.Entry) Rev {
	r := Rev{Version: version, Rate: rate, Span: sp}
	for _, e := range l {
		r.Keys = append(r.Keys, e.Key)
		r.Vals = append(r.Vals, e.Value)
		r.Gone = append(r.Gone, e.Gone)
	}
	r.Table = probe.Build(r.Keys)
	return r
}

// same tells whether two revisions are the same in all of their fields; lists without elements are one.
func same(a, b Rev) bool {
	return a.Version == b.Version && a.Rate == b.Rate && a.Span == b.Span && a.Dead == b.Dead && slices.Equal(a.Keys, b.Keys) && slices.Equal(a.Vals, b.Vals) && slices.Equal(a.Gone, b.Gone) && slices.Equal(a.Table, b.Table)
}

// isZero tells whether a revision is the zero one, but for lists without elements.
func isZero(r Rev) bool { return same(r, Rev{}) }

// still are those of some entries that aren't gone.
func still(l []api.Entry) []api.Entry {
	var out []api.Entry
	for _, e := range l {
		if !e.Gone {
			out = append(out, e)
		}
	}
	return out
}

// behind is the chapter's entries behind a change, told once more by a map.
func behind(l, changes []api.Entry) []api.Entry {
	m := map[string]api.Entry{}
	for _, e := range append(slices.Clone(l), changes...) {
		m[e.Key] = e
	}
	var out []api.Entry
	for _, k := range slices.Sorted(maps.Keys(m)) {
		out = append(out, m[k])
	}
	return out
}

// some are all lists of entries of some keys, each of which isn't there, is gone, or has a value that begins as told.
func some(value string, keys ...string) [][]api.Entry {
	l := [][]api.Entry{nil}
	for i, k := range keys {
		for _, x := range slices.Clone(l) {
			l = append(l, append(slices.Clone(x), gone(k)), append(slices.Clone(x), has(k, value+strconv.Itoa(i))))
		}
	}
	return l
}

// many are so many entries, each third one of them gone.
func many(n int) []api.Entry {
	var l []api.Entry
	for i := range n {
		k := "k" + strconv.Itoa(100000+i)
		if i%3 == 2 {
			l = append(l, gone(k))
		} else {
			l = append(l, has(k, strconv.Itoa(i)))
		}
	}
	return l
}

// 8.1: the revision, list by list, with its table as it was worked out elsewhere.
func TestNew(t *testing.T) {
	r, err := New(7, 32, span("a", "e"), list("a=1 b! d="))
	want := Rev{Version: 7, Rate: 32, Span: span("a", "e"), Keys: []string{"a", "b", "d"}, Vals: []string{"1", "", ""}, Gone: []bool{false, true, false}, Table: probe.Build([]string{"a", "b", "d"})}
	if err != api.OK || !same(r, want) {
		t.Errorf("New: %+v, %d", r, err)
	}
	r, err = New(7, 32, span("a", "e"), list("a=1 b=2"))
	want = Rev{Version: 7, Rate: 32, Span: span("a", "e"), Keys: []string{"a", "b"}, Vals: []string{"1", "2"}, Gone: []bool{false, false}, Table: []int{0, 0, 1, 2}}
	if err != api.OK || !same(r, want) {
		t.Errorf("New: %+v, %d", r, err)
	}
	r, err = New(0, 0, key.Whole(), nil)
	if want = (Rev{Span: key.Span{All: true}, Table: []int{0, 0}}); err != api.OK || !same(r, want) {
		t.Errorf("New of no entries: %+v, %d", r, err)
	}
}

// 8.1: entries that may be, none and one among them, and keys that lie just within the span.
func TestNewTakes(t *testing.T) {
	big := strings.Repeat("k", 2000)
	for i, x := range []struct {
		sp key.Span
		l  []api.Entry
	}{
		{key.Whole(), nil},
		{key.Whole(), []api.Entry{}},
		{key.Whole(), list("a=1")},
		{key.Whole(), list("a!")},
		{key.Whole(), list("a=")},
		{key.Whole(), []api.Entry{has("", "x"), has("\x00", "y"), has("a", "z"), gone("\xff\xff")}},
		{key.Whole(), []api.Entry{gone("")}},
		{key.Whole(), list("a! b! c!")},
		// Each one is greater, by a byte more, or by a greater byte.
		{key.Whole(), []api.Entry{has("a", ""), has("a\x00", ""), has("a\x00\x00", ""), has("aa", ""), has("ab", ""), has("b", ""), has("é", ""), has("€", ""), has("\xff", "")}},
		// Whether a text may be a key, or a value, isn't asked here.
		{key.Whole(), []api.Entry{has(big, strings.Repeat("v", 70000)), gone(big + "\x00")}},
		// At both ends of the span.
		{span("b", "d"), list("b=1")},
		{span("b", "d"), list("c=1")},
		{span("b", "d"), []api.Entry{has("b", "1"), has("c", "2"), has("c\xff\xff", "3")}},
		{span("b", "d"), []api.Entry{gone("b"), gone("c\xff")}},
		{from("b"), []api.Entry{has("b", "1"), has("\xff\xff\xff", "3")}},
		{span("", "a"), []api.Entry{has("", "1"), has("A", "2"), has("`", "3")}},
		{span("a", "a\x00"), list("a=1")},
		{span("", "\x00"), []api.Entry{has("", "1")}},
		// No key need lie in a span that is empty, or isn't good.
		{span("b", "b"), nil},
		{span("", ""), nil},
		{span("d", "b"), nil},
		{key.Span{Lo: "b", Hi: "x", All: true}, list("b=1 x=2 y=3")},
		{key.Span{Lo: "b", Hi: "a", All: true}, list("b=1 c! y=3")},
		{key.Whole(), many(1000)},
	} {
		for _, version := range []int{0, 1, api.MaxVersion, api.MaxVersion + 1, -1, math.MaxInt, math.MinInt} {
			for _, rate := range []int{0, 4, 4080, 4081, -1, math.MaxInt, math.MinInt} {
				if r, err := New(version, rate, x.sp, x.l); err != api.OK || !same(r, laid(version, rate, x.sp, x.l)) {
					t.Fatalf("%d: New(%d, %d) = %d, %.200s", i, version, rate, err, keyed(r))
				}
			}
		}
		if r := made(t, 3, 5, x.sp, x.l); !slices.Equal(Entries(r), x.l) {
			t.Errorf("%d: Entries: %.200s", i, keyed(r))
		}
	}
}

// keyed keeps what a failing test tells readable.
func keyed(r Rev) string {
	return strconv.Itoa(r.Version) + " " + strconv.Itoa(r.Rate) + " " + strconv.Quote(strings.Join(r.Keys, " "))
}

// wrong are entries that may not be within a span.
func wrong() []struct {
	sp key.Span
	l  []api.Entry
} {
	return []struct {
		sp key.Span
		l  []api.Entry
	}{
		// Keys that don't rise, at the beginning, within, and at the end; and a key twice.
		{key.Whole(), list("b=1 a=2")},
		{key.Whole(), list("a=1 a=1")},
		{key.Whole(), list("a=1 a!")},
		{key.Whole(), list("a! a=1")},
		{key.Whole(), list("a! a!")},
		{key.Whole(), []api.Entry{has("", ""), has("", "")}},
		{key.Whole(), list("a=1 c=2 b=3 d=4")},
		{key.Whole(), list("a=1 b=2 d=3 c=4")},
		{key.Whole(), list("b=1 a=2 c=3 d=4")},
		{key.Whole(), list("a=1 b=2 b=3 c=4")},
		{key.Whole(), list("a=1 b=2 a=3")},
		{key.Whole(), []api.Entry{has("a\x00", ""), has("a", "")}},
		{key.Whole(), []api.Entry{has("é", ""), has("z", "")}},
		{key.Whole(), append(many(500), has("k100499", ""))},
		// Keys just outside the span, at both ends, alone, first and last.
		{span("b", "d"), list("d=1")},
		{span("b", "d"), list("d!")},
		{span("b", "d"), list("b=1 c=2 d=3")},
		{span("b", "d"), []api.Entry{has("b", ""), has("d\x00", "")}},
		{span("b", "d"), list("a=1")},
		{span("b", "d"), list("a!")},
		{span("b", "d"), []api.Entry{has("a\xff\xff\xff", ""), has("b", ""), has("c", "")}},
		{span("b", "d"), []api.Entry{has("", "")}},
		{from("b"), list("a=1 b=2")},
		{from("b"), []api.Entry{gone("a\xff")}},
		{key.Span{Lo: "b", Hi: "a", All: true}, list("a=1")},
		{span("", "a"), list("a=1")},
		// Nothing lies in these.
		{span("b", "b"), list("b=1")},
		{span("", ""), []api.Entry{has("", "")}},
		{span("d", "b"), list("c=1")},
		{span("d", "b"), list("b=1")},
		{span("d", "b"), list("d=1")},
		{span("d", "b"), list("e=1")},
		{span("d", "b"), list("a!")},
		// Gone ones with a value.
		{key.Whole(), []api.Entry{{Key: "a", Value: "x", Gone: true}}},
		{key.Whole(), []api.Entry{{Key: "a", Value: "\x00", Gone: true}, has("b", "")}},
		{key.Whole(), []api.Entry{has("a", "1"), {Key: "b", Value: "1", Gone: true}, has("c", "1")}},
		{key.Whole(), []api.Entry{has("a", "1"), gone("b"), {Key: "c", Value: "1", Gone: true}}},
	}
}

// 8.1: entries that may not be, with zero values beside the error.
func TestNewRefuses(t *testing.T) {
	for i, x := range wrong() {
		if r, err := New(3, 5, x.sp, x.l); err != api.ErrInvalid || !isZero(r) {
			t.Errorf("%d: New(%v): %d, %.200s", i, x.sp, err, keyed(r))
		}
	}
}

// 8.1: all short lists of entries within all spans of few texts, held against the chapter's words.
func TestNewByTheWords(t *testing.T) {
	texts := []string{"", "a", "a\x00", "b", "c"}
	var all []api.Entry
	for _, k := range texts {
		all = append(all, has(k, ""), has(k, "v"), gone(k), api.Entry{Key: k, Value: "v", Gone: true})
	}
	lists := [][]api.Entry{nil}
	for _, a := range all {
		lists = append(lists, []api.Entry{a})
		for _, b := range all {
			lists = append(lists, []api.Entry{a, b})
		}
	}
	for _, lo := range texts {
		for _, hi := range texts {
			for _, sp := range []key.Span{{Lo: lo, Hi: hi}, {Lo: lo, Hi: hi, All: true}} {
				for _, l := range lists {
					good := true
					for i, e := range l {
						if i > 0 && strings.Compare(l[i-1].Key, e.Key) != -1 {
							good = false
						}
						if strings.Compare(e.Key, lo) < 0 || !sp.All && strings.Compare(e.Key, hi) >= 0 {
							good = false
						}
						if e.Gone && len(e.Value) > 0 {
							good = false
						}
					}
					r, err := New(1, 2, sp, l)
					if good && (err != api.OK || !same(r, laid(1, 2, sp, l))) || !good && (err != api.ErrInvalid || !isZero(r)) {
						t.Fatalf("New(%+v, %+v) = %+v, %d", sp, l, r, err)
					}
				}
			}
		}
	}
}

// 8.1: a dead one has a version, and nothing else.
func TestTomb(t *testing.T) {
	for _, version := range []int{0, 1, 7, api.MaxVersion, api.MaxVersion + 1, -1, math.MaxInt, math.MinInt} {
		r := Tomb(version)
		if !same(r, Rev{Version: version, Dead: true}) {
			t.Errorf("Tomb(%d) = %+v", version, r)
		}
		if l := Entries(r); len(l) != 0 {
			t.Errorf("Entries of Tomb(%d): %v", version, l)
		}
	}
}

// 8.1: of what each call answers, too, the entries.
func TestEntries(t *testing.T) {
	if l := Entries(Rev{}); len(l) != 0 {
		t.Errorf("of the zero one: %v", l)
	}
	for _, s := range []string{"", "a=", "a=1", "a!", "a=1 b!", "a! b=1", "a! b!", "a=1 b=2 c! d="} {
		if l := Entries(made(t, 1, 2, key.Whole(), list(s))); !slices.Equal(l, list(s)) {
			t.Errorf("%s: %v", s, l)
		}
	}
}

// 8.2: keys that are there, that aren't, and that are gone.
func TestGet(t *testing.T) {
	r := made(t, 1, 2, span("a", "x"), append(list("a=1 b! d= e=x"), has("f\x00", "0")))
	for _, x := range []struct {
		k, v string
		ok   bool
	}{
		{"a", "1", true}, {"d", "", true}, {"e", "x", true}, {"f\x00", "0", true},
		{"b", "", false}, {"", "", false}, {"c", "", false}, {"A", "", false}, {"aa", "", false}, {"a\x00", "", false}, {"f", "", false}, {"x", "", false}, {"\xff", "", false}, {strings.Repeat("a", 70000), "", false},
	} {
		if v, ok := Get(r, x.k); v != x.v || ok != x.ok {
			t.Errorf("Get(%.20q) = %q, %v", x.k, v, ok)
		}
	}
	for i, r := range []Rev{{}, Tomb(0), Tomb(9), made(t, 1, 2, key.Whole(), nil), made(t, 1, 2, key.Whole(), []api.Entry{gone("")})} {
		for _, k := range []string{"", "a", "\x00"} {
			if v, ok := Get(r, k); v != "" || ok {
				t.Errorf("%d: Get(%q) = %q, %v", i, k, v, ok)
			}
		}
	}
	if v, ok := Get(made(t, 1, 2, key.Whole(), []api.Entry{has("", "x")}), ""); v != "x" || !ok {
		t.Errorf("Get of the empty key: %q, %v", v, ok)
	}
}

// 8.2: in long revisions, and in those of keys of one sum, each key is found, and none that isn't there.
func TestGetOfMany(t *testing.T) {
	var zeros []api.Entry
	for i := range 100 {
		zeros = append(zeros, has(strings.Repeat("\x00", i), strconv.Itoa(i)))
	}
	for _, l := range [][]api.Entry{many(1), many(2), many(3), many(64), many(65), many(1000), zeros} {
		r := made(t, 1, 2, key.Whole(), l)
		for _, e := range l {
			if v, ok := Get(r, e.Key); v != e.Value || ok == e.Gone {
				t.Fatalf("Get(%q) = %q, %v", e.Key, v, ok)
			}
			if v, ok := Get(r, e.Key+"x"); v != "" || ok {
				t.Fatalf("Get(%q) = %q, %v", e.Key+"x", v, ok)
			}
		}
		if n := len(still(l)); Live(r) != n {
			t.Errorf("Live = %d, not %d", Live(r), n)
		}
	}
}

// 8.2: how many aren't gone; an empty value is one.
func TestLive(t *testing.T) {
	for s, want := range map[string]int{"": 0, "a=": 1, "a=1": 1, "a!": 0, "a=1 b!": 1, "a! b=1": 1, "a! b!": 0, "a=1 b=2 c! d=": 3, "a! b! c! d=": 1} {
		if n := Live(made(t, 1, 2, key.Whole(), list(s))); n != want {
			t.Errorf("%s: %d", s, n)
		}
	}
	if Live(Rev{}) != 0 || Live(Tomb(3)) != 0 {
		t.Errorf("Live of the zero one: %d, of a dead one: %d", Live(Rev{}), Live(Tomb(3)))
	}
}

// told is pairs in one text.
func told(l []api.Pair) string {
	var s []string
	for _, p := range l {
		s = append(s, p.Key+"="+p.Value)
	}
	return strings.Join(s, " ")
}

// 8.2: pairs with limits below 0, 0, 1, as many as there are, and more, and with spans that cut through the keys.
func TestPairs(t *testing.T) {
	r := made(t, 1, 2, key.Whole(), list("a=1 b! c=3 d= e! f=6"))
	for _, x := range []struct {
		sp    key.Span
		limit int
		want  string
	}{
		{key.Whole(), math.MinInt, ""}, {key.Whole(), -1, ""}, {key.Whole(), 0, ""},
		{key.Whole(), 1, "a=1"}, {key.Whole(), 2, "a=1 c=3"}, {key.Whole(), 3, "a=1 c=3 d="}, {key.Whole(), 4, "a=1 c=3 d= f=6"}, {key.Whole(), 5, "a=1 c=3 d= f=6"}, {key.Whole(), 6, "a=1 c=3 d= f=6"}, {key.Whole(), math.MaxInt, "a=1 c=3 d= f=6"},
		{span("b", "d"), 9, "c=3"}, {span("b", "d\x00"), 9, "c=3 d="}, {span("c", "d"), 9, "c=3"}, {span("c\x00", "d"), 9, ""}, {span("c\x00", "g"), 9, "d= f=6"}, {span("c", "g"), 2, "c=3 d="}, {span("c", "g"), 1, "c=3"}, {span("c", "g"), 0, ""}, {span("c", "g"), -5, ""},
		{span("", "a"), 9, ""}, {span("", "a\x00"), 9, "a=1"}, {span("", "zz"), 9, "a=1 c=3 d= f=6"}, {span("b", "c"), 9, ""}, {span("e", "f"), 9, ""},
		{from("c"), 9, "c=3 d= f=6"}, {from("c\x00"), 9, "d= f=6"}, {from("c"), 2, "c=3 d="}, {from("f"), 9, "f=6"}, {from("f\x00"), 9, ""}, {from("\xff"), 9, ""},
		{key.Span{Lo: "c", Hi: "d", All: true}, 9, "c=3 d= f=6"}, {key.Span{Lo: "c", Hi: "a", All: true}, 1, "c=3"},
		{span("c", "c"), 9, ""}, {span("d", "b"), 9, ""}, {span("", ""), 9, ""},
	} {
		if l := Pairs(r, x.sp, x.limit); told(l) != x.want {
			t.Errorf("Pairs(%+v, %d) = %v", x.sp, x.limit, l)
		}
	}
	for i, r := range []Rev{{}, Tomb(0), Tomb(9), made(t, 1, 2, key.Whole(), nil), made(t, 1, 2, key.Whole(), list("a! b!"))} {
		if l := Pairs(r, key.Whole(), 9); len(l) != 0 {
			t.Errorf("%d: %v", i, l)
		}
	}
	// What is asked for is the keys that lie in that span, wherever the revision's own one ends.
	if l := Pairs(made(t, 1, 2, span("b", "e"), list("b=1 d=2")), key.Whole(), 9); told(l) != "b=1 d=2" {
		t.Errorf("beyond the revision's span: %v", l)
	}
}

// 8.2: all short revisions, spans and limits, held against the chapter's words.
func TestPairsByTheWords(t *testing.T) {
	texts := []string{"", "a", "b", "b\x00", "c", "d"}
	for _, l := range some("v", "a", "b", "b\x00", "c") {
		r := made(t, 1, 2, key.Whole(), l)
		for _, lo := range texts {
			for _, hi := range texts {
				for _, sp := range []key.Span{{Lo: lo, Hi: hi}, {Lo: lo, Hi: hi, All: true}} {
					for limit := -1; limit <= 5; limit++ {
						var want []api.Pair
						for _, e := range still(l) {
							if e.Key >= lo && (sp.All || e.Key < hi) && len(want) < limit {
								want = append(want, api.Pair{Key: e.Key, Value: e.Value})
							}
						}
						if p := Pairs(r, sp, limit); !slices.Equal(p, want) {
							t.Fatalf("Pairs(%v, %+v, %d) = %v", l, sp, limit, p)
						}
					}
				}
			}
		}
	}
}

// 8.3: Apply of no entries, of keys that are there, and that aren't, of gone entries; the chapter's example is the first.
func TestApply(t *testing.T) {
	for _, x := range []struct {
		l, changes, want string
		live             int
	}{
		{"b=2", "a=1 b!", "a=1 b!", 1},
		{"", "", "", 0}, {"a=1", "", "a=1", 1}, {"a!", "", "a!", 0}, {"a=1 b! c=", "", "a=1 b! c=", 2},
		{"", "a=1", "a=1", 1}, {"", "a!", "a!", 0}, {"", "a=1 b! c=3", "a=1 b! c=3", 2},
		{"b=2", "b=3", "b=3", 1}, {"b=2", "b=", "b=", 1}, {"b=2", "b!", "b!", 0}, {"b!", "b=3", "b=3", 1}, {"b!", "b!", "b!", 0}, {"b!", "b=", "b=", 1}, {"b=2", "b=2", "b=2", 1},
		{"b=2", "a=1", "a=1 b=2", 2}, {"b=2", "c=3", "b=2 c=3", 2}, {"b=2", "a=1 c=3", "a=1 b=2 c=3", 3}, {"b=2", "a!", "a! b=2", 1}, {"b=2", "c!", "b=2 c!", 1},
		{"a=1 c=3 e=5", "b=2 d=4", "a=1 b=2 c=3 d=4 e=5", 5}, {"b=2 d=4", "a=1 c=3 e=5", "a=1 b=2 c=3 d=4 e=5", 5},
		{"a=1 b=2 c=3", "a=x b! c=z", "a=x b! c=z", 2}, {"a=1 b! c=3 d!", "b=x c!", "a=1 b=x c! d!", 2},
		{"a=1 b=2", "c=3 d=4", "a=1 b=2 c=3 d=4", 4}, {"c=3 d=4", "a=1 b=2", "a=1 b=2 c=3 d=4", 4},
	} {
		r := made(t, 3, 20, span("a", "x"), list(x.l))
		n, err := Apply(r, 8, list(x.changes))
		if err != api.OK || !same(n, laid(8, pace.Rate(20, len(list(x.changes))), span("a", "x"), list(x.want))) {
			t.Errorf("Apply(%s, %s) = %+v, %d", x.l, x.changes, n, err)
		}
		if Live(n) != x.live {
			t.Errorf("Apply(%s, %s): Live %d", x.l, x.changes, Live(n))
		}
	}
}

// 8.3: the version is the one that is handed in, the rate that behind a change of as many entries, the span that of the revision, as it was handed in.
func TestApplyVersionRateSpan(t *testing.T) {
	for _, x := range []struct{ rate, n, want int }{
		{0, 0, 0}, {0, 1, 4}, {4, 1, 7}, {16, 1, 16}, {16, 0, 12}, {7, 0, 6}, {0, 2, 8}, {100, 10, 115}, {4080, 0, 3060}, {4080, 1, 3064}, {0, 255, 1020}, {0, 256, 1020}, {1000, 300, 1770}, {4080, 1000, 4080}, {9999, 0, 3060}, {-5, 2, 8}, {math.MaxInt, 255, 4080}, {math.MinInt, 1, 4},
	} {
		for _, sp := range []key.Span{key.Whole(), from("k"), span("k", "l"), {Lo: "k", Hi: "a", All: true}} {
			for _, version := range []int{0, 1, 2, 3, api.MaxVersion, -1, math.MaxInt, math.MinInt} {
				l := many(x.n)
				r, err := Apply(made(t, 2, x.rate, sp, nil), version, l)
				if err != api.OK || !same(r, laid(version, x.want, sp, l)) {
					t.Fatalf("Apply(rate %d, %d entries, version %d) = %d, %.100s", x.rate, x.n, version, err, keyed(r))
				}
			}
		}
	}
	// Each entry counts, also one that changes nothing.
	if r, err := Apply(made(t, 2, 0, key.Whole(), list("a=1 b!")), 3, list("a=1 b! c!")); err != api.OK || r.Rate != 12 {
		t.Errorf("rate %d, %d", r.Rate, err)
	}
}

// 8.3: a dead revision, and entries that may not be.
func TestApplyRefuses(t *testing.T) {
	for i, x := range wrong() {
		if r, err := Apply(made(t, 1, 2, x.sp, nil), 3, x.l); err != api.ErrInvalid || !isZero(r) {
			t.Errorf("%d: Apply(%+v): %d, %.200s", i, x.sp, err, keyed(r))
		}
	}
	full := made(t, 1, 2, span("b", "d"), list("b=1 c=2"))
	for _, s := range []string{"a=1", "d=1", "a!", "d!", "b=1 d=1", "a=1 b=1", "c=1 b=1", "b=1 b=1", "b! b!"} {
		if r, err := Apply(full, 3, list(s)); err != api.ErrInvalid || !isZero(r) {
			t.Errorf("Apply of %s: %d, %+v", s, err, r)
		}
	}
	if !same(full, laid(1, 2, span("b", "d"), list("b=1 c=2"))) {
		t.Errorf("behind refused changes: %+v", full)
	}
	for _, l := range [][]api.Entry{nil, {}, list("a=1"), list("b=1 a=1"), list("a!")} {
		for _, version := range []int{0, 1, 9} {
			if r, err := Apply(Tomb(version), 3, l); err != api.ErrInvalid || !isZero(r) {
				t.Errorf("Apply of %v to a dead one: %d, %+v", l, err, r)
			}
		}
	}
}

// 8.3: nothing lies in the span of the zero revision.
func TestApplyToTheZeroOne(t *testing.T) {
	if r, err := Apply(Rev{}, 3, nil); err != api.OK || !same(r, laid(3, 0, key.Span{}, nil)) {
		t.Errorf("no entries: %+v, %d", r, err)
	}
	for _, l := range [][]api.Entry{list("a=1"), list("a!"), {has("", "")}, {gone("")}} {
		if r, err := Apply(Rev{}, 3, l); err != api.ErrInvalid || !isZero(r) {
			t.Errorf("%v: %+v, %d", l, r, err)
		}
	}
}

// 8.4: without the gone entries, all else as it was; a dead one as it is.
func TestClean(t *testing.T) {
	for s, want := range map[string]string{"": "", "a=1": "a=1", "a=": "a=", "a!": "", "a=1 b!": "a=1", "a! b=1": "b=1", "a! b!": "", "a=1 b! c=3 d! e!": "a=1 c=3", "a! b=2 c=3": "b=2 c=3", "a=1 b=2 c=": "a=1 b=2 c="} {
		for _, sp := range []key.Span{key.Whole(), from("a"), span("a", "x"), {Lo: "a", Hi: "b", All: true}} {
			r := made(t, 6, 77, sp, list(s))
			c := Clean(r)
			if !same(c, laid(6, 77, sp, list(want))) {
				t.Errorf("Clean(%s) = %+v", s, c)
			}
			if !same(r, laid(6, 77, sp, list(s))) || !same(Clean(c), c) {
				t.Errorf("Clean(%s) changed it, or cleans on: %+v", s, r)
			}
		}
	}
	for _, version := range []int{0, 3, -1, math.MaxInt} {
		if c := Clean(Tomb(version)); !same(c, Tomb(version)) {
			t.Errorf("Clean of a dead one: %+v", c)
		}
	}
	if c := Clean(Rev{}); c.Version != 0 || c.Rate != 0 || c.Span != (key.Span{}) || c.Dead || len(Entries(c)) != 0 {
		t.Errorf("Clean of the zero one: %+v", c)
	}
	if c := Clean(made(t, 6, 77, span("d", "b"), nil)); !same(c, laid(6, 77, span("d", "b"), nil)) {
		t.Errorf("Clean of one whose span isn't good: %+v", c)
	}
}

// 8.4: with two, three and more entries that aren't gone, and gone ones among them.
func TestSplit(t *testing.T) {
	for _, x := range []struct{ l, first, second string }{
		{"b=1 c=2", "b=1", "c=2"},
		{"b=1 c=", "b=1", "c="},
		{"b=1 c=2 d=3", "b=1 c=2", "d=3"},
		{"b=1 c=2 d=3 e=4", "b=1 c=2", "d=3 e=4"},
		{"b=1 c=2 d=3 e=4 f=5", "b=1 c=2 d=3", "e=4 f=5"},
		{"a! b=1 c=2", "b=1", "c=2"}, {"b=1 bb! c=2", "b=1", "c=2"}, {"b=1 c=2 d!", "b=1", "c=2"}, {"a! aa! b=1 bb! c! d=2 e! f!", "b=1", "d=2"},
		{"b=1 c! d=3 e! f=5", "b=1 d=3", "f=5"}, {"b! c! d! e=4 f=5 g=6", "e=4 f=5", "g=6"}, {"b=1 c=2 d=3 e! f! g!", "b=1 c=2", "d=3"},
	} {
		cut := list(x.second)[0].Key
		for _, sp := range []key.Span{key.Whole(), from("a"), span("a", "x"), span("", "g\x00"), {Lo: "a", Hi: "x", All: true}, {Lo: "a", Hi: "", All: true}, {Lo: "a", Hi: "b", All: true}} {
			r := made(t, 6, 77, sp, list(x.l))
			below, above := key.Span{Lo: sp.Lo, Hi: cut}, key.Span{Lo: cut, Hi: sp.Hi}
			if sp.All {
				above = key.Span{Lo: cut, All: true}
			}
			a, b, ok := Split(r)
			if !ok || !same(a, laid(6, 77, below, list(x.first))) || !same(b, laid(6, 77, above, list(x.second))) {
				t.Errorf("Split(%s, %v) = %+v, %+v, %v", x.l, sp, a, b, ok)
			}
			if !same(r, laid(6, 77, sp, list(x.l))) {
				t.Errorf("Split(%s) changed it: %+v", x.l, r)
			}
		}
	}
}

// 8.4: with none, and with one entry that isn't gone.
func TestSplitOfFew(t *testing.T) {
	few := []Rev{{}, Tomb(0), Tomb(7)}
	for _, s := range []string{"", "a=1", "a=", "a!", "a! b!", "a=1 b!", "a! b=1", "a! b=1 c!", "a! b! c! d! e!"} {
		few = append(few, made(t, 6, 77, key.Whole(), list(s)), made(t, 6, 77, span("a", "x"), list(s)))
	}
	for _, r := range few {
		if a, b, ok := Split(r); ok || !isZero(a) || !isZero(b) {
			t.Errorf("Split(%+v) = %+v, %+v, %v", r, a, b, ok)
		}
	}
}

// 8.4: the greater version, the greater rate, the whole span, and the entries of both that aren't gone.
func TestJoin(t *testing.T) {
	for _, x := range []struct{ a, b, want string }{
		{"", "", ""}, {"b=1", "", "b=1"}, {"", "d=1", "d=1"}, {"b=1", "d=2", "b=1 d=2"}, {"b=1 c=2", "d=3 e=4", "b=1 c=2 d=3 e=4"}, {"b=", "d=", "b= d="},
		{"b!", "d!", ""}, {"b=1 c!", "d! e=4", "b=1 e=4"}, {"b! c=2", "d=3 e!", "c=2 d=3"}, {"b! c!", "e=4", "e=4"},
	} {
		for _, v := range [][3]int{{3, 8, 8}, {8, 3, 8}, {5, 5, 5}, {0, 0, 0}, {-3, -8, -3}, {math.MinInt, math.MaxInt, math.MaxInt}} {
			for _, p := range [][3]int{{40, 7, 40}, {7, 40, 40}, {9, 9, 9}, {0, 0, 0}, {-5, -3, -3}, {9999, 4080, 9999}} {
				for _, sp := range []key.Span{span("d", "x"), from("d"), {Lo: "d", Hi: "e", All: true}, {Lo: "d", Hi: "a", All: true}} {
					a, b := made(t, v[0], p[0], span("b", "d"), list(x.a)), made(t, v[1], p[1], sp, list(x.b))
					r, ok := Join(a, b)
					if !ok || !same(r, laid(v[2], p[2], key.Span{Lo: "b", Hi: sp.Hi, All: sp.All}, list(x.want))) {
						t.Fatalf("Join(%+v, %+v) = %+v, %v", a, b, r, ok)
					}
				}
			}
		}
	}
}

// 8.4: spans that are empty, but good, are joined, too, and so is the zero revision.
func TestJoinOfEmptySpans(t *testing.T) {
	for _, x := range []struct {
		a, b, want Rev
	}{
		{Rev{}, Rev{}, laid(0, 0, key.Span{}, nil)},
		{Rev{}, laid(4, 5, key.Whole(), list("a=1 b!")), laid(4, 5, key.Whole(), list("a=1"))},
		{laid(4, 5, span("b", "b"), nil), laid(3, 6, from("b"), list("b=1")), laid(4, 6, from("b"), list("b=1"))},
		{laid(4, 5, span("a", "b"), list("a=1")), laid(3, 6, span("b", "b"), nil), laid(4, 6, span("a", "b"), list("a=1"))},
	} {
		if r, ok := Join(x.a, x.b); !ok || !same(r, x.want) {
			t.Errorf("Join(%+v, %+v) = %+v, %v", x.a, x.b, r, ok)
		}
	}
}

// 8.4: where one is dead, where a span isn't good, where spans don't join.
func TestJoinRefuses(t *testing.T) {
	a, b := made(t, 3, 4, span("b", "d"), list("b=1 c!")), made(t, 5, 6, from("d"), list("d=2"))
	if _, ok := Join(a, b); !ok {
		t.Fatalf("these may be joined")
	}
	rev := func(sp key.Span) Rev { return made(t, 3, 4, sp, nil) }
	dead := []Rev{Tomb(0), Tomb(3), Tomb(9)}
	type pair struct{ a, b Rev }
	no := []pair{
		// The order counts, and the very end.
		{b, a}, {a, a}, {b, b}, {rev(span("b", "d")), rev(from("d\x00"))}, {rev(span("b", "d")), rev(from("c"))}, {rev(span("b", "d")), rev(from(""))}, {rev(span("b", "d")), rev(key.Whole())}, {rev(span("b", "d\x00")), rev(from("d"))},
		// The first one has no end, though its Hi is there.
		{rev(key.Whole()), rev(key.Whole())}, {rev(key.Span{Lo: "b", Hi: "d", All: true}), b}, {rev(key.Span{All: true}), Rev{}},
		// One span isn't good.
		{rev(span("e", "d")), b}, {rev(span("e", "d")), rev(span("d", "x"))}, {a, rev(span("d", "c"))}, {a, rev(span("d", ""))}, {rev(span("d", "b")), rev(span("b", "a"))}, {rev(span("d", "")), rev(key.Whole())},
	}
	for _, d := range dead {
		no = append(no, pair{d, b}, pair{a, d}, pair{d, d}, pair{d, Rev{}}, pair{Rev{}, d}, pair{d, rev(key.Whole())})
	}
	for _, p := range no {
		if r, ok := Join(p.a, p.b); ok || !isZero(r) {
			t.Errorf("Join(%+v, %+v) = %+v, %v", p.a, p.b, r, ok)
		}
	}
	// Keys in a span without an end, and a Hi that counts for nothing, keep nobody from joining.
	if r, ok := Join(a, made(t, 5, 6, key.Span{Lo: "d", Hi: "c", All: true}, list("d=2"))); !ok || r.Span != (key.Span{Lo: "b", Hi: "c", All: true}) {
		t.Errorf("a Hi that counts for nothing: %+v, %v", r, ok)
	}
}

// 8.5: all revisions and all changes of four keys: each key that is changed is as the change says, each other one as it was.
func TestChangesHold(t *testing.T) {
	keys := []string{"a", "b", "c", "d"}
	changes := some("new", keys...)
	for _, l := range some("old", keys...) {
		r := made(t, 1, 50, key.Whole(), l)
		for _, c := range changes {
			n, err := Apply(r, 2, c)
			if err != api.OK || !same(n, laid(2, pace.Rate(50, len(c)), key.Whole(), behind(l, c))) {
				t.Fatalf("Apply(%v, %v) = %+v, %d", l, c, n, err)
			}
			for _, k := range keys {
				v, ok := Get(n, k)
				i := slices.IndexFunc(c, func(e api.Entry) bool { return e.Key == k })
				if i >= 0 && (v != c[i].Value || ok == c[i].Gone) {
					t.Fatalf("Apply(%v, %v): %s = %q, %v", l, c, k, v, ok)
				}
				if old, was := Get(r, k); i < 0 && (v != old || ok != was) {
					t.Fatalf("Apply(%v, %v): %s = %q, %v, was %q, %v", l, c, k, v, ok, old, was)
				}
			}
		}
	}
}

// 8.5: many changes, one behind the other, of many keys.
func TestManyChangesHold(t *testing.T) {
	r := made(t, 0, 0, key.Whole(), nil)
	var l []api.Entry
	rate, word := 0, uint32(1)
	for version := 1; version <= 300; version++ {
		m := map[string]api.Entry{}
		for range 1 + version%17 {
			word = word*1664525 + 1013904223
			k := "k" + strconv.Itoa(int(word>>16%97))
			m[k] = api.Entry{Key: k, Value: strconv.Itoa(version), Gone: false}
			if word>>30 == 0 {
				m[k] = gone(k)
			}
		}
		change := behind(nil, slices.Collect(maps.Values(m)))
		n, err := Apply(r, version, change)
		l, rate = behind(l, change), pace.Rate(rate, len(change))
		if err != api.OK || !same(n, laid(version, rate, key.Whole(), l)) {
			t.Fatalf("version %d: %d, %.200s", version, err, keyed(n))
		}
		if version%10 == 0 {
			n = Clean(n)
			l = still(l)
		}
		r = n
	}
}

// 8.5: what is split, and joined again, has the same values; and what is joined, and split at the same place, too.
func TestSplitAndJoinHold(t *testing.T) {
	lists := append(some("v", "a", "b", "c", "d", "e"), many(64), many(65), many(66), many(1000))
	for _, l := range lists {
		for _, sp := range []key.Span{key.Whole(), span("", "z"), span("a", "z"), {Lo: "", Hi: "b", All: true}} {
			r := made(t, 6, 77, sp, l)
			a, b, ok := Split(r)
			if n := len(still(l)); ok != (n >= 2) || ok && (len(Entries(a)) != (n+1)/2 || len(Entries(b)) != n/2) {
				t.Fatalf("Split(%.200s): %v, %d and %d", keyed(r), ok, len(Entries(a)), len(Entries(b)))
			}
			if !ok {
				continue
			}
			j, ok := Join(a, b)
			want := sp
			if sp.All {
				want.Hi = ""
			}
			if !ok || !same(j, laid(6, 77, want, still(l))) || !slices.Equal(Pairs(j, key.Whole(), math.MaxInt), Pairs(r, key.Whole(), math.MaxInt)) {
				t.Fatalf("Split and Join of %.200s: %.200s, %v", keyed(r), keyed(j), ok)
			}
			for _, e := range l {
				v, is := Get(j, e.Key)
				if w, was := Get(r, e.Key); v != w || is != was {
					t.Fatalf("%q behind Split and Join: %q, %v", e.Key, v, is)
				}
			}
		}
	}
}

// spared is a list with spare room behind it, and what there stands.
func spared(l []api.Entry) ([]api.Entry, []api.Entry) {
	room := append(slices.Clone(l), has("spare", "1"), gone("room"), has("spare", "3"))
	return room[:len(l)], room
}

// Rule 4: the entries handed in are neither changed nor kept, nor is the room behind them.
func TestEntriesAreNotKept(t *testing.T) {
	for _, s := range []string{"", "a=1", "a!", "a=1 b! c=3", "b=2 d=4 f!"} {
		for _, base := range []string{"", "b=1 c=2", "a! g=7", "a=x b=y c=z d=v e=w"} {
			l, room := spared(list(s))
			kept := slices.Clone(room)
			r, err := New(1, 2, key.Whole(), l)
			n, err2 := Apply(made(t, 1, 2, key.Whole(), list(base)), 3, l)
			if err != api.OK || err2 != api.OK || !slices.Equal(room, kept) {
				t.Errorf("%s: handed in, then %v", s, room)
			}
			for i := range room {
				room[i] = has("other", "value")
			}
			if !same(r, laid(1, 2, key.Whole(), list(s))) || !same(n, laid(3, pace.Rate(2, len(list(s))), key.Whole(), behind(list(base), list(s)))) {
				t.Errorf("%s to %s: kept what was handed in: %+v, %+v", s, base, r, n)
			}
		}
	}
	for _, x := range wrong() {
		l, room := spared(x.l)
		kept := slices.Clone(room)
		New(1, 2, x.sp, l)
		Apply(made(t, 1, 2, x.sp, nil), 3, l)
		if !slices.Equal(room, kept) {
			t.Errorf("%+v: refused, and changed", x.sp)
		}
	}
}

// Rule 4: what is handed out is new memory, spare room included; whoever writes there changes no revision, and no other answer.
func TestAnswersAreNew(t *testing.T) {
	l := list("a=1 b! c=3 d=4 e!")
	r := made(t, 1, 2, key.Whole(), l)
	first, pairs := Entries(r), Pairs(r, key.Whole(), 9)
	other, more := Entries(r), Pairs(r, key.Whole(), 9)
	for i := range first[:cap(first)] {
		first[:cap(first)][i] = has("other", "value")
	}
	for i := range pairs[:cap(pairs)] {
		pairs[:cap(pairs)][i] = api.Pair{Key: "other", Value: "value"}
	}
	if !same(r, laid(1, 2, key.Whole(), l)) || !slices.Equal(other, l) || told(more) != "a=1 c=3 d=4" {
		t.Errorf("written into answers: %+v, %v, %v", r, other, more)
	}
	for _, r := range []Rev{{}, Tomb(1), made(t, 1, 2, key.Whole(), nil)} {
		l := append(Entries(r), has("x", "y"))
		if m := append(Entries(r), has("z", "y")); l[0].Key != "x" || len(m) != 1 {
			t.Errorf("entries of none share their room")
		}
	}
}

// written is a revision with all of its lists, and the room behind them, written over.
func written(r Rev) {
	for i := range r.Keys[:cap(r.Keys)] {
		r.Keys[:cap(r.Keys)][i] = "other"
	}
	for i := range r.Vals[:cap(r.Vals)] {
		r.Vals[:cap(r.Vals)][i] = "other"
	}
	for i := range r.Gone[:cap(r.Gone)] {
		r.Gone[:cap(r.Gone)][i] = true
	}
	for i := range r.Table[:cap(r.Table)] {
		r.Table[:cap(r.Table)][i] = -1
	}
}

// Rule 4: what is handed in isn't changed: each revision is what it was behind all calls.
func TestRevisionsStay(t *testing.T) {
	l, m := list("a=1 b! c=3 d=4 e!"), list("m! n=1 o=2")
	a, b := made(t, 1, 2, span("", "m"), l), made(t, 3, 4, from("m"), m)
	for range 3 {
		Entries(a)
		Get(a, "c")
		Live(a)
		Apply(a, 2, list("a! b=2 bb=3"))
		Apply(a, 2, list("b=2 a=1"))
		Pairs(a, span("b", "d"), 1)
		Clean(a)
		Split(a)
		Join(a, b)
		Join(b, a)
	}
	if !same(a, laid(1, 2, span("", "m"), l)) || !same(b, laid(3, 4, from("m"), m)) {
		t.Errorf("changed: %+v, %+v", a, b)
	}
	// Both halves, and what they were made of, stand beside one another.
	x, y, ok := Split(a)
	if !ok {
		t.Fatalf("not split")
	}
	written(x)
	if !same(a, laid(1, 2, span("", "m"), l)) || !same(y, laid(1, 2, span("d", "m"), list("d=4"))) {
		t.Errorf("halves share room: %+v, %+v", a, y)
	}
}

// Rule 6: the same answers again, whatever was called meanwhile.
func TestSameAgain(t *testing.T) {
	a, b := made(t, 1, 2, span("", "m"), list("a=1 b! c=3 d=4 e!")), made(t, 3, 4, from("m"), list("m! n=1 o=2"))
	all := func() []any {
		n, err := Apply(a, 2, list("a! bb=3"))
		bad, err2 := New(1, 2, span("b", "a"), list("a=1"))
		x, y, ok := Split(a)
		j, ok2 := Join(a, b)
		no, ok3 := Join(b, a)
		v, ok4 := Get(a, "c")
		return []any{n, err, bad, err2, x, y, ok, j, ok2, no, ok3, v, ok4, Live(b), Pairs(b, key.Whole(), 2), Clean(b), Entries(a), Tomb(4)}
	}
	first := all()
	for range 20 {
		if again := all(); !reflect.DeepEqual(again, first) {
			t.Fatalf("%+v, then %+v", first, again)
		}
	}
}

// Rule 1: of revisions made by hand nothing is promised but that calls end, and don't panic.
func TestMadeByHand(t *testing.T) {
	keys, vals, flags := []string{"a", "b", "c"}, []string{"1", "2", "3"}, []bool{false, true, false}
	var odd []Rev
	for i := range 4 {
		for j := range 4 {
			for k := range 4 {
				for _, table := range [][]int{nil, {}, {0}, {9, -9, 3, 2, 1, 1, 1, 1}, {3, 3, 3, 3, 3, 3, 3, 3}, probe.Build(keys), probe.Build(keys[:i])} {
					odd = append(odd, Rev{Span: key.Whole(), Keys: keys[:i], Vals: vals[:j], Gone: flags[:k], Table: table}, Rev{Dead: true, Span: span("", "a"), Keys: keys[:i], Vals: vals[:j], Gone: flags[:k], Table: table})
				}
			}
		}
	}
	for _, r := range append(odd, Rev{Keys: []string{"b", "a", "b"}, Vals: vals, Gone: flags, Table: probe.Build(keys)}, Rev{Span: span("", "b"), Keys: []string{"x", "y"}, Vals: vals, Gone: []bool{false, false}}) {
		for _, k := range []string{"", "a", "b", "c", "d"} {
			Get(r, k)
		}
		Entries(r)
		Live(r)
		Apply(r, 1, list("a=1 c!"))
		Pairs(r, key.Whole(), 9)
		Clean(r)
		Split(r)
		Join(r, Rev{Span: key.Whole()})
		Join(Rev{}, r)
		Join(r, r)
	}
}
