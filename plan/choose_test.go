package plan

import (
	"math"
	"reflect"
	"slices"
	"testing"

	"rundle/api"
	"rundle/key"
	"rundle/rev"
	"rundle/tower"
)

// What becomes of a node has just these numbers.
func TestNumbers(t *testing.T) {
	if Keep != 0 || Split != 1 || Join != 2 {
		t.Fatalf("Keep %d, Split %d, Join %d", Keep, Split, Join)
	}
}

// 18.2: At of an empty row, and of keys that are empty, that are a Low, that stand between two, that are above all.
func TestAt(t *testing.T) {
	for _, k := range []string{"", "c", "\xff"} {
		if at := At(nil, k); at != -1 {
			t.Fatalf("At of an empty row: %d", at)
		}
		if at := At([]tower.View{}, k); at != -1 {
			t.Fatalf("At of an empty row: %d", at)
		}
		if at := At(row(t, seen{live: 3}), k); at != 0 {
			t.Fatalf("At of one node: %d", at)
		}
	}
	l := row(t, seen{live: 3}, seen{}, seen{gone: 1}, seen{version: 99})
	for _, x := range []struct {
		k    string
		want int
	}{
		{"", 0}, {"\x00", 0}, {"a", 0}, {"b\xff\xff", 0}, {"c", 1}, {"c\x00", 1}, {"cz", 1}, {"d", 2}, {"d\x00", 2}, {"dd", 2}, {"e", 3}, {"e\x00", 3}, {"f", 3}, {"\xff\xff", 3},
	} {
		if at := At(l, x.k); at != x.want {
			t.Fatalf("At of %q: %d, want %d", x.k, at, x.want)
		}
		if at, want := At(l[:2], x.k), min(x.want, 1); at != want {
			t.Fatalf("At of %q in two: %d, want %d", x.k, at, want)
		}
	}
	if at := At(l[1:], "b"); at != -1 { // no node has a Low that isn't greater
		t.Fatalf("At of a key ahead of all: %d", at)
	}
}

// choice is what Choose is asked, and what it should answer.
type choice struct {
	l                []seen
	k                string
	least, low, high int
	what, at         int
}

// chooses holds Choose's answers against what they should be.
func chooses(t *testing.T, l ...choice) {
	t.Helper()
	for _, x := range l {
		if what, at := Choose(row(t, x.l...), x.k, x.least, x.low, x.high); what != x.what || at != x.at {
			t.Fatalf("Choose of %+v: %d, %d", x, what, at)
		}
	}
}

// 18.2: Choose of an empty row.
func TestChooseEmpty(t *testing.T) {
	for _, k := range []string{"", "c"} {
		for _, n := range []int{math.MinInt, 0, 5, math.MaxInt} {
			if what, at := Choose(nil, k, n, n, n); what != Keep || at != 0 {
				t.Fatalf("%d, %d", what, at)
			}
		}
	}
	if what, at := Choose(row(t, seen{live: 64}, seen{live: 64})[1:], "b", 9, 2, 2); what != Keep || at != 0 {
		t.Fatalf("of a key ahead of all: %d, %d", what, at)
	}
}

// 18.2: a node is parted if it is old, and has more live entries than its rate's Limit: versions round about least, entries round about the limit, gone ones beside them, rates whose Limit parts and ones whose Limit doesn't.
func TestChooseSplit(t *testing.T) {
	one := func(s seen, least, low, high int, what int) {
		t.Helper()
		chooses(t, choice{[]seen{s}, "", least, low, high, what, 0}, choice{[]seen{s}, "zz", least, low, high, what, 0})
	}
	for _, least := range []int{0, 5, 1 << 30} {
		one(seen{version: least, live: 3}, least, 2, 4, Split)
		one(seen{version: least - 1, live: 3}, least, 2, 4, Split)
		one(seen{version: least + 1, live: 3}, least, 2, 4, Keep)
	}
	for low := 2; low <= 64; low++ {
		one(seen{live: low, gone: 3}, 0, low, 64, Keep)
		one(seen{live: low + 1, gone: low % 3}, 0, low, 64, Split)
	}
	one(seen{live: 0, gone: 5}, 9, 2, 4, Keep)
	one(seen{live: 0}, 9, 2, 4, Keep)
	one(seen{live: 2, gone: 40}, 9, 2, 4, Keep)
	one(seen{live: 3, gone: 40}, 9, 2, 4, Split)
	one(seen{live: 3, rate: 15}, 9, 2, 4, Split) // its limit is 2
	one(seen{live: 3, rate: 16}, 9, 2, 4, Keep)  // 3
	one(seen{live: 4, rate: 31}, 9, 2, 4, Split)
	one(seen{live: 4, rate: 32}, 9, 2, 4, Keep)
	one(seen{live: 5, rate: 4080}, 9, 2, 4, Split) // no more than high
	one(seen{live: 4, rate: 4080}, 9, 2, 4, Keep)
	one(seen{live: 8, rate: 32}, 9, 6, 64, Keep)
	one(seen{live: 9, rate: 32}, 9, 6, 64, Split)
	one(seen{live: 65, rate: 4080}, 9, 64, 64, Split)
	one(seen{live: 65, rate: 4080}, 9, 99, 999, Split) // chapter 7 brings both between 2 and 64
	one(seen{live: 64, rate: 4080}, 9, 99, 999, Keep)
	one(seen{live: 3}, 9, -5, 1, Split)
	one(seen{live: 2}, 9, -5, 1, Keep)
}

// 18.2: of many nodes, that of the key is parted, whatever the others have.
func TestChooseSplitAt(t *testing.T) {
	big, two := seen{live: 5}, seen{live: 2}
	chooses(t,
		choice{[]seen{big, big, big}, "", 0, 2, 4, Split, 0}, choice{[]seen{big, big, big}, "b\xff", 0, 2, 4, Split, 0},
		choice{[]seen{big, big, big}, "c", 0, 2, 4, Split, 1}, choice{[]seen{big, big, big}, "cz", 0, 2, 4, Split, 1},
		choice{[]seen{big, big, big}, "d", 0, 2, 4, Split, 2}, choice{[]seen{big, big, big}, "\xff", 0, 2, 4, Split, 2},
		choice{[]seen{big, two, big}, "c", 0, 2, 4, Keep, 0}, choice{[]seen{two, big, two}, "c", 0, 2, 4, Split, 1},
		choice{[]seen{two, big, two}, "b", 0, 2, 4, Keep, 0}, choice{[]seen{two, big, two}, "d", 0, 2, 4, Keep, 0},
		choice{[]seen{{live: 5, version: 3}, big, {live: 5, version: 3}}, "c", 2, 2, 4, Split, 1},
		choice{[]seen{big, {live: 5, version: 3}, big}, "c", 2, 2, 4, Keep, 0},
	)
}

// 18.2: two nodes are joined if twice as many live entries as both have are at most the Limit, gone ones aside.
func TestChooseJoin(t *testing.T) {
	for a := range 9 {
		for b := range 9 {
			for limit := 2; limit <= 18; limit++ {
				l := []seen{{live: a, gone: b}, {live: b, gone: a + 1}}
				what, at := Keep, 0
				if 2*(a+b) <= limit {
					what = Join
				}
				for i, k := range []string{"b", "c"} {
					x := choice{l, k, 0, limit, limit, what, at}
					if []int{a, b}[i] > limit {
						x.what, x.at = Split, i
					}
					chooses(t, x)
				}
			}
		}
	}
}

// 18.2: the greater rate of two counts, whichever has it.
func TestChooseJoinRate(t *testing.T) {
	for _, x := range []struct{ rate, live, what int }{{0, 1, Join}, {0, 2, Keep}, {31, 2, Keep}, {32, 2, Join}, {32, 3, Keep}, {64, 3, Join}, {4080, 5, Join}, {4080, 6, Keep}, {math.MaxInt, 5, Join}, {-7, 1, Join}, {-7, 2, Keep}} {
		for _, other := range []int{-9, 0, min(x.rate, 15), x.rate} {
			for _, k := range []string{"", "c"} {
				chooses(t,
					choice{[]seen{{rate: x.rate, live: x.live}, {rate: min(other, x.rate), live: 1}}, k, 0, 4, 12, x.what, 0},
					choice{[]seen{{rate: min(other, x.rate), live: 1}, {rate: x.rate, live: x.live}}, k, 0, 4, 12, x.what, 0},
				)
			}
		}
	}
}

// 18.2: both of two have to be old.
func TestChooseJoinOld(t *testing.T) {
	for _, least := range []int{0, 7, 1 << 30} {
		for _, k := range []string{"", "c"} {
			chooses(t,
				choice{[]seen{{version: least}, {version: least}}, k, least, 2, 2, Join, 0},
				choice{[]seen{{version: least - 1}, {version: least}}, k, least, 2, 2, Join, 0},
				choice{[]seen{{version: least}, {version: least - 1}}, k, least, 2, 2, Join, 0},
				choice{[]seen{{version: least + 1}, {version: least}}, k, least, 2, 2, Keep, 0},
				choice{[]seen{{version: least}, {version: least + 1}}, k, least, 2, 2, Keep, 0},
				choice{[]seen{{version: least + 1}, {version: least + 1}}, k, least, 2, 2, Keep, 0},
			)
		}
	}
}

// 18.2: the node of the key and the one behind it are joined; or else the one ahead of it, and it; the last one with the one ahead, the first one with the one behind; none with one further off; a node alone stays.
func TestChooseJoinAt(t *testing.T) {
	none, some, full, new := seen{}, seen{live: 2}, seen{live: 4}, seen{version: 8}
	chooses(t,
		choice{[]seen{none}, "", 5, 4, 4, Keep, 0}, choice{[]seen{none}, "x", 5, 4, 4, Keep, 0},
		choice{[]seen{none, none, none}, "b", 5, 4, 4, Join, 0}, choice{[]seen{none, none, none}, "c", 5, 4, 4, Join, 1}, choice{[]seen{none, none, none}, "d", 5, 4, 4, Join, 1},
		choice{[]seen{none, none, none, none}, "c", 5, 4, 4, Join, 1}, choice{[]seen{none, none, none, none}, "d", 5, 4, 4, Join, 2}, choice{[]seen{none, none, none, none}, "e", 5, 4, 4, Join, 2},
		choice{[]seen{none, none, full}, "c", 5, 4, 4, Join, 0}, choice{[]seen{full, none, none}, "c", 5, 4, 4, Join, 1}, choice{[]seen{full, none, full}, "c", 5, 4, 4, Keep, 0},
		choice{[]seen{none, full, none}, "", 5, 4, 4, Keep, 0}, choice{[]seen{none, full, none}, "d", 5, 4, 4, Keep, 0}, choice{[]seen{none, none, full}, "d", 5, 4, 4, Keep, 0},
		choice{[]seen{full, none, none}, "b", 5, 4, 4, Keep, 0}, choice{[]seen{none, none, full, full}, "e", 5, 4, 4, Keep, 0},
		choice{[]seen{none, none, new}, "c", 5, 4, 4, Join, 0}, choice{[]seen{new, none, none}, "c", 5, 4, 4, Join, 1}, choice{[]seen{none, new, none}, "c", 5, 4, 4, Keep, 0},
		choice{[]seen{new, none, new}, "c", 5, 4, 4, Keep, 0}, choice{[]seen{none, some, none}, "c", 5, 4, 4, Join, 1}, choice{[]seen{none, some, some}, "c", 5, 4, 4, Join, 0},
		choice{[]seen{none, {live: 3}, {rate: 32}}, "c", 5, 4, 8, Join, 1}, choice{[]seen{{rate: 32}, {live: 3}, none}, "c", 5, 4, 8, Join, 0}, choice{[]seen{none, {live: 3}, none, {rate: 4080}}, "c", 5, 4, 8, Keep, 0},
	)
}

// 18.2: where both might be, the node is parted; where its own Limit parts it not, but a neighbour's rate joins it, it is joined; and where neither is, it stays.
func TestChooseBoth(t *testing.T) {
	fast := seen{rate: 4080}
	chooses(t,
		choice{[]seen{{live: 3}, fast}, "", 0, 2, 64, Split, 0}, choice{[]seen{fast, {live: 3}}, "c", 0, 2, 64, Split, 1},
		choice{[]seen{{live: 2}, fast}, "", 0, 2, 64, Join, 0}, choice{[]seen{fast, {live: 2}}, "c", 0, 2, 64, Join, 0},
		choice{[]seen{fast, {live: 3}}, "", 0, 2, 64, Join, 0}, // the node of the key is the other one
		choice{[]seen{{live: 3, version: 4}, fast}, "", 3, 2, 64, Keep, 0}, choice{[]seen{{live: 3}, {rate: 4080, version: 4}}, "", 3, 2, 64, Split, 0},
		choice{[]seen{{live: 3, rate: 40}, {live: 2, rate: 40}}, "", 3, 2, 64, Keep, 0},
	)
}

// 18.3: Empties of no view, of the first place, of ones that aren't old, that have live entries, gone ones alone, and none; behind one that isn't old, and behind such as are told so.
func TestEmpties(t *testing.T) {
	none, gone, live, new, fresh := seen{version: 5}, seen{version: 4, gone: 3}, seen{version: 5, live: 1, gone: 2}, seen{version: 6, live: 1}, seen{version: 6}
	const o, x = false, true
	for _, c := range []struct {
		l    []seen
		want []bool
	}{
		{nil, nil}, {[]seen{none}, []bool{o}}, {[]seen{live}, []bool{o}}, {[]seen{new}, []bool{o}}, {[]seen{gone}, []bool{o}},
		{[]seen{none, none}, []bool{o, x}}, {[]seen{live, gone}, []bool{o, x}}, {[]seen{none, live}, []bool{o, o}}, {[]seen{none, new}, []bool{o, o}}, {[]seen{none, fresh}, []bool{o, o}},
		{[]seen{new, none}, []bool{o, o}}, {[]seen{fresh, none}, []bool{o, o}}, {[]seen{fresh, gone, none}, []bool{o, o, x}}, {[]seen{new, gone, none, live, none}, []bool{o, o, x, o, x}},
		{[]seen{live, none, gone, none, none}, []bool{o, x, x, x, x}}, {[]seen{live, none, fresh, none, none}, []bool{o, x, o, o, x}},
		{[]seen{live, none, new, gone, live}, []bool{o, x, o, o, o}}, {[]seen{live, live, gone, live, gone}, []bool{o, o, x, o, x}},
		{[]seen{new, new, none, fresh, none}, []bool{o, o, o, o, o}}, {[]seen{none, gone, gone, live}, []bool{o, x, x, o}},
		{[]seen{live, {version: 5, gone: 1}, {version: 6, gone: 1}, {version: 5, gone: 1}}, []bool{o, x, o, o}},
	} {
		if got := Empties(row(t, c.l...), 5); !slices.Equal(got, c.want) {
			t.Fatalf("Empties of %+v: %v, want %v", c.l, got, c.want)
		}
	}
	for least, want := range map[int][]bool{math.MinInt: {o, o, o}, 3: {o, o, o}, 4: {o, o, o}, 5: {o, x, x}, 6: {o, x, x}, math.MaxInt: {o, x, x}} {
		if got := Empties(row(t, none, gone, none), least); !slices.Equal(got, want) {
			t.Fatalf("Empties of least %d: %v, want %v", least, got, want)
		}
	}
	if got := Empties([]tower.View{}, 5); len(got) != 0 {
		t.Fatalf("Empties of no view: %v", got)
	}
}

// joined is chapter 8's Join of the revisions from one place to another one, one behind the other.
func joined(t *testing.T, l []tower.View, from, to int) rev.Rev {
	t.Helper()
	r := l[from].Rev
	for _, v := range l[from+1 : to+1] {
		both, ok := rev.Join(r, v.Rev)
		if !ok {
			t.Fatalf("%+v and %+v aren't joined", r, v.Rev)
		}
		r = both
	}
	return r
}

// 18.3: Takers of a row of which none goes, one, several beside one another, the last ones, all but the first one; of a list gone that tells of the first one, that is shorter than the row, longer, or empty.
func TestTakers(t *testing.T) {
	l := row(t, seen{links: 3, version: 4, rate: 9, live: 2, gone: 1}, seen{version: 7, rate: 5, live: 1}, seen{version: 2, rate: 40, gone: 2}, seen{version: 3, live: 3, gone: 3}, seen{version: 9})
	const o, x = false, true
	for _, c := range []struct {
		gone []bool
		want [][2]int // from each taker's place to that of the last one that it takes in
	}{
		{nil, nil}, {[]bool{}, nil}, {[]bool{o, o, o, o, o}, nil}, {[]bool{x}, nil}, {[]bool{x, o, o, o, o}, nil}, {[]bool{o, o}, nil},
		{[]bool{o, x, o, o, o}, [][2]int{{0, 1}}}, {[]bool{o, x}, [][2]int{{0, 1}}}, {[]bool{x, x}, [][2]int{{0, 1}}}, {[]bool{o, o, x}, [][2]int{{1, 2}}},
		{[]bool{o, o, o, x, o}, [][2]int{{2, 3}}}, {[]bool{o, o, o, o, x}, [][2]int{{3, 4}}}, {[]bool{o, o, o, o, o, x, x}, nil}, {[]bool{o, o, o, o, x, x, o, x}, [][2]int{{3, 4}}},
		{[]bool{o, x, x, o, o}, [][2]int{{0, 2}}}, {[]bool{o, o, x, x, o}, [][2]int{{1, 3}}}, {[]bool{o, o, o, x, x}, [][2]int{{2, 4}}}, {[]bool{o, o, x, x, x}, [][2]int{{1, 4}}},
		{[]bool{o, x, o, x, o}, [][2]int{{0, 1}, {2, 3}}}, {[]bool{o, x, o, x, x}, [][2]int{{0, 1}, {2, 4}}}, {[]bool{x, x, x, o, x}, [][2]int{{0, 2}, {3, 4}}},
		{[]bool{o, x, x, x, x}, [][2]int{{0, 4}}}, {[]bool{x, x, x, x, x, x}, [][2]int{{0, 4}}}, {[]bool{x, x, x, x}, [][2]int{{0, 3}}},
	} {
		var want []Taker
		for _, w := range c.want {
			want = append(want, Taker{At: w[0], Rev: joined(t, l, w[0], w[1])})
		}
		if got := Takers(l, c.gone); len(got)+len(want) > 0 && !reflect.DeepEqual(got, want) {
			t.Fatalf("Takers of %v: %+v, want %+v", c.gone, got, want)
		}
	}
	for _, gone := range [][]bool{nil, {x}, {o, x}, {x, x, x}} {
		if got := Takers(nil, gone); len(got) != 0 {
			t.Fatalf("Takers of no view: %+v", got)
		}
		if got := Takers(l[:1], gone); len(got) != 0 {
			t.Fatalf("Takers of one view: %+v", got)
		}
	}
}

// 18.3: what a taker has, told by numbers: the greater version, the greater rate, the span from its beginning to the end of the last one that it takes in, and the live entries.
func TestTakerHas(t *testing.T) {
	l := row(t, seen{version: 4, rate: 9, live: 1, gone: 2}, seen{version: 7, rate: 5, live: 2, gone: 1}, seen{version: 2, rate: 40, gone: 2}, seen{version: 3, live: 1})
	has := func(gone []bool, at, version, rate int, sp key.Span, keys ...string) {
		t.Helper()
		got := Takers(l, gone)
		if len(got) != 1 || got[0].At != at {
			t.Fatalf("%+v", got)
		}
		var es []api.Entry
		for _, k := range keys {
			es = append(es, api.Entry{Key: k, Value: "value of " + k})
		}
		if want := revOf(t, version, rate, sp, es); !reflect.DeepEqual(got[0].Rev, want) {
			t.Fatalf("%+v, want %+v", got[0].Rev, want)
		}
	}
	has([]bool{false, true}, 0, 7, 9, key.Span{Hi: "d"}, "b101", "c101", "c102")
	has([]bool{false, true, true}, 0, 7, 40, key.Span{Hi: "e"}, "b101", "c101", "c102")
	has([]bool{false, true, true, true}, 0, 7, 40, key.Whole(), "b101", "c101", "c102", "e100")
	has([]bool{false, false, true, true}, 1, 7, 40, key.Span{Lo: "c", All: true}, "c101", "c102", "e100")
	has([]bool{false, false, false, true}, 2, 3, 40, key.Span{Lo: "d", All: true}, "e100")
}

// 18.2, 18.3: rows that aren't right: no call panics.
func TestWrongRows(t *testing.T) {
	dead := tower.View{Handle: 5, Rev: rev.Tomb(3)}
	good := row(t, seen{live: 3}, seen{live: 1}, seen{})
	for _, l := range [][]tower.View{{{}}, {{}, {}}, {dead, dead, dead}, {good[0], dead, good[2]}, {good[2], good[1], good[0]}, {good[0], good[0]}} {
		for _, least := range []int{math.MinInt, 3, math.MaxInt} {
			for _, k := range []string{"", "c", "z"} {
				At(l, k)
				Choose(l, k, least, 2, 64)
			}
			if n := len(Empties(l, least)); n != len(l) {
				t.Fatalf("Empties of %d views: %d", len(l), n)
			}
		}
		Takers(l, []bool{true, true, true})
		Relink(Towers(l), 4)
	}
}
