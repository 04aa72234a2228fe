package plan

import (
	"math"
	"reflect"
	"slices"
	"strconv"
	"testing"

	"rundle/api"
	"rundle/desc"
	"rundle/key"
	"rundle/node"
	"rundle/rev"
	"rundle/tower"
)

// odd are numbers that are no handles, or are those of edges, and words of any kind.
var odd = []int{0, 1, -1, 65535, 65536, 65537, 1<<30 - 1, 1 << 30, 1<<31 - 1, 1 << 31, 1<<61 + 5, math.MaxInt, math.MinInt}

// word is the word of a handle, or of nobody, and a version, by the chapter's numbers.
func word(h, version int) int { return version*(1<<31) + h }

// seen is what a view is of: how many links it has; its revision's version and rate; how many of its keys are live, and how many are gone.
type seen struct{ links, version, rate, live, gone int }

// lowOf is the Low of the place i: nothing, then c, d, e, ..
func lowOf(i int) string {
	if i == 0 {
		return ""
	}
	return string(rune('b' + i))
}

// spanOf is the span of the place i of a row of n.
func spanOf(i, n int) key.Span {
	if i == n-1 {
		return key.Span{Lo: lowOf(i), All: true}
	}
	return key.Span{Lo: lowOf(i), Hi: lowOf(i + 1)}
}

// entriesOf are entries of the place i; gone ones stand ahead of live ones, between them, and behind them.
func entriesOf(i, live, gone int) []api.Entry {
	var l []api.Entry
	for n := range live + gone {
		k := string(rune('b'+i)) + strconv.Itoa(100+n)
		if gone > 0 && n%2 == 0 || live == 0 {
			l = append(l, api.Entry{Key: k, Gone: true})
			gone--
			continue
		}
		l = append(l, api.Entry{Key: k, Value: "value of " + k})
		live--
	}
	return l
}

// revOf is a revision that may be.
func revOf(t *testing.T, version, rate int, sp key.Span, l []api.Entry) rev.Rev {
	t.Helper()
	r, err := rev.New(version, rate, sp, l)
	if err != api.OK {
		t.Fatalf("%v of %v: %d", l, sp, err)
	}
	return r
}

// handleOf is the handle of the place i.
func handleOf(i int) int { return 101 + i }

// row is a right row of what is seen; a node without a number of links has one.
func row(t *testing.T, l ...seen) []tower.View {
	t.Helper()
	out := make([]tower.View, len(l))
	for i, s := range l {
		r := revOf(t, s.version, s.rate, spanOf(i, len(l)), entriesOf(i, s.live, s.gone))
		if rev.Live(r) != s.live || len(r.Keys) != s.live+s.gone {
			t.Fatalf("%+v has %d live entries of %d", s, rev.Live(r), len(r.Keys))
		}
		v := tower.View{Handle: handleOf(i), Node: node.Node{Low: lowOf(i), Head: 3000 + i}, Head: 4000 + i, Rev: r}
		for level := range max(s.links, 1) {
			to := 0
			for j := len(l) - 1; j > i; j-- {
				if max(l[j].links, 1) > level {
					to = handleOf(j)
				}
			}
			v.Node.Next = append(v.Node.Next, 1000+30*i+level)
			v.Links = append(v.Links, word(to, i+level))
		}
		out[i] = v
	}
	if len(l) > 0 && !tower.Right(out) {
		t.Fatalf("the row of %+v isn't right", l)
	}
	return out
}

// 18.1: Towers of no view, of one, and of many: handles, the cells of their links, and the words that these hold, in order; none is to go.
func TestTowers(t *testing.T) {
	if l := Towers(nil); len(l) != 0 {
		t.Fatalf("towers of no view: %+v", l)
	}
	if l := Towers([]tower.View{}); len(l) != 0 {
		t.Fatalf("towers of no view: %+v", l)
	}
	one := Towers(row(t, seen{links: 2}))
	if want := []Tower{{Handle: 101, Cells: []int{1000, 1001}, Words: []int{0, word(0, 1)}}}; !reflect.DeepEqual(one, want) {
		t.Fatalf("%+v, want %+v", one, want)
	}
	many := Towers(row(t, seen{links: 3, live: 2}, seen{links: 1, gone: 4}, seen{links: 2, version: 9}, seen{links: 3}))
	want := []Tower{
		{Handle: 101, Cells: []int{1000, 1001, 1002}, Words: []int{word(102, 0), word(103, 1), word(104, 2)}},
		{Handle: 102, Cells: []int{1030}, Words: []int{word(103, 1)}},
		{Handle: 103, Cells: []int{1060, 1061}, Words: []int{word(104, 2), word(104, 3)}},
		{Handle: 104, Cells: []int{1090, 1091, 1092}, Words: []int{word(0, 3), word(0, 4), word(0, 5)}},
	}
	if !reflect.DeepEqual(many, want) {
		t.Fatalf("%+v, want %+v", many, want)
	}
	l := Towers([]tower.View{{Handle: -5, Node: node.Node{Low: "x", Head: 8, Next: odd}, Links: odd, Head: 9, Rev: rev.Tomb(3)}, {}})
	if len(l) != 2 || l[0].Handle != -5 || !slices.Equal(l[0].Cells, odd) || !slices.Equal(l[0].Words, odd) || l[0].Gone {
		t.Fatalf("%+v", l)
	}
	if l[1].Handle != 0 || len(l[1].Cells)+len(l[1].Words) != 0 || l[1].Gone {
		t.Fatalf("%+v", l[1])
	}
	if n := len(Towers(make([]tower.View, 300))); n != 300 {
		t.Fatalf("%d towers of 300 views", n)
	}
}

// pile is a tower of so many cells.
func pile(h, cells int) Tower {
	return Tower{Handle: h, Cells: make([]int, cells), Words: make([]int, cells)}
}

// going is a tower that is to go.
func going(h, cells int) Tower {
	x := pile(h, cells)
	x.Gone = true
	return x
}

// 18.1: Leads from a place below 0, of the first one, of the last one, behind the row; of a level below 0, of one that none has, that the next tower has, that only a later one has, that only one that is to go has, and past several that are to go.
func TestLeads(t *testing.T) {
	l := []Tower{pile(11, 4), pile(12, 1), going(13, 6), pile(14, 2), going(15, 4), going(16, 4), going(17, 1), pile(18, 4), pile(19, 1), going(20, 5)}
	cases := []struct{ i, level, want int }{
		{-1, 0, 11}, {-1, 3, 11}, {-1, 4, 0}, {-1, 5, 0}, {-2, 0, 11}, {-7, 2, 11}, {math.MinInt, 0, 11}, {math.MinInt, 3, 11}, {math.MinInt + 1, 0, 11},
		{0, 0, 12}, {0, 1, 14}, {0, 2, 18}, {0, 3, 18}, {0, 4, 0}, {0, 5, 0}, {0, 6, 0}, {0, math.MaxInt, 0},
		{1, 0, 14}, {1, 1, 14}, {1, 2, 18}, {2, 0, 14}, {2, 1, 14}, {2, 3, 18}, {2, 4, 0},
		{3, 0, 18}, {3, 1, 18}, {3, 3, 18}, {3, 4, 0}, {4, 0, 18}, {5, 0, 18}, {6, 0, 18}, {6, 3, 18},
		{7, 0, 19}, {7, 1, 0}, {7, 3, 0}, {8, 0, 0}, {8, 1, 0}, {9, 0, 0}, {9, 4, 0}, {10, 0, 0}, {11, 0, 0}, {math.MaxInt, 0, 0}, {math.MaxInt - 1, 0, 0},
		{0, -1, 0}, {-1, -1, 0}, {3, -1, 0}, {0, math.MinInt, 0}, {-1, math.MinInt, 0}, {math.MinInt, math.MinInt, 0}, {math.MaxInt, math.MaxInt, 0}, {12, -1, 0},
	}
	for _, x := range cases {
		if h := Leads(l, x.i, x.level); h != x.want {
			t.Fatalf("Leads(%d, %d): %d, want %d", x.i, x.level, h, x.want)
		}
	}
	for _, i := range []int{math.MinInt, -2, -1, 0, 1, 2, math.MaxInt} {
		if h := Leads(nil, i, 0); h != 0 {
			t.Fatalf("Leads of no tower, from %d: %d", i, h)
		}
		if h := Leads([]Tower{going(3, 3)}, i, 0); h != 0 {
			t.Fatalf("Leads of one that goes, from %d: %d", i, h)
		}
	}
	if h := Leads([]Tower{pile(3, 0), pile(4, 1)}, -1, 0); h != 4 {
		t.Fatalf("one without a cell is told: %d", h)
	}
}

// 18.1: what Leads tells is the handle as it is, and hangs on how many cells towers have, not on what these are, nor on their words.
func TestLeadsHandle(t *testing.T) {
	for _, h := range odd {
		l := []Tower{pile(4, 3), {Handle: h, Cells: []int{-5, 0}, Words: []int{word(77, 2), -1, 9}}, {Handle: 5, Words: []int{1, 2, 3, 4}}}
		for level, want := range []int{h, h, 0, 0} {
			if got := Leads(l, 0, level); got != want {
				t.Fatalf("Leads: %d, want %d", got, want)
			}
		}
	}
}

// same is a list of n times the same number.
func same(n, of int) []int { return slices.Repeat([]int{of}, n) }

// 18.1: Links of heights below 1, of 1, of 24 and of 25; at a place below 0, at the first one, at the last one, behind the row; of levels that lead to nobody.
func TestLinks(t *testing.T) {
	l := []Tower{pile(11, 24), going(12, 24), pile(13, 1), pile(14, 2), going(15, 9), pile(16, 24), pile(17, 3)}
	cases := []struct {
		i, height int
		to        []int
	}{
		{0, 0, nil}, {0, -1, nil}, {0, math.MinInt, nil}, {0, 25, nil}, {0, 26, nil}, {0, math.MaxInt, nil}, {-1, 0, nil}, {-1, 25, nil}, {6, 25, nil}, {7, 0, nil},
		{0, 1, []int{13}}, {0, 2, []int{13, 14}}, {0, 3, []int{13, 14, 16}}, {0, 24, append([]int{13, 14}, same(22, 16)...)}, {0, 23, append([]int{13, 14}, same(21, 16)...)},
		{1, 3, []int{13, 14, 16}}, {2, 3, []int{14, 14, 16}}, {3, 2, []int{16, 16}}, {4, 24, same(24, 16)}, {5, 5, []int{17, 17, 17, 0, 0}},
		{-1, 1, []int{11}}, {-1, 24, same(24, 11)}, {-9, 2, []int{11, 11}}, {math.MinInt, 2, []int{11, 11}},
		{6, 1, []int{0}}, {6, 24, same(24, 0)}, {7, 2, []int{0, 0}}, {100, 1, []int{0}}, {math.MaxInt, 24, same(24, 0)},
	}
	for _, x := range cases {
		var want []int
		for _, h := range x.to {
			want = append(want, word(h, 7))
		}
		if got := Links(l, x.i, x.height, 7); !slices.Equal(got, want) {
			t.Fatalf("Links(%d, %d): %v, want %v", x.i, x.height, got, want)
		}
	}
	if got := Links(nil, 0, 3, 2); !slices.Equal(got, same(3, word(0, 2))) {
		t.Fatalf("Links among no towers: %v", got)
	}
	if got := Links(nil, -1, 0, 2); len(got) != 0 {
		t.Fatalf("Links of the height 0: %v", got)
	}
}

// 18.1: Links of versions at chapter 11's edges, of nobody too; of what is no handle.
func TestLinksVersion(t *testing.T) {
	l := []Tower{pile(11, 2), pile(12, 2)}
	for _, version := range []int{0, 1, 2, 1<<30 - 1, 1 << 30} {
		if got, want := Links(l, 0, 3, version), []int{word(12, version), word(12, version), word(0, version)}; !slices.Equal(got, want) {
			t.Fatalf("Links at %d: %v, want %v", version, got, want)
		}
	}
	for _, version := range []int{-1, 1<<30 + 1, math.MinInt, math.MaxInt, 1 << 33} {
		if got := Links(l, 0, 3, version); !slices.Equal(got, same(3, -1)) {
			t.Fatalf("Links at %d: %v", version, got)
		}
	}
	for _, h := range []int{-1, 65536, 1 << 30, 1 << 31, math.MaxInt, math.MinInt} {
		if got := Links([]Tower{pile(h, 1)}, -1, 2, 5); !slices.Equal(got, []int{-1, word(0, 5)}) {
			t.Fatalf("Links to %d: %v", h, got)
		}
	}
}

// relinks holds Relink's swaps against what they should be.
func relinks(t *testing.T, l []Tower, version int, want ...desc.Swap) {
	t.Helper()
	got := Relink(l, version)
	if len(got)+len(want) > 0 && !reflect.DeepEqual(got, want) {
		t.Fatalf("Relink of %+v: %v, want %v", l, got, want)
	}
}

// 18.1: Relink of no tower, and of rows where nothing goes and nothing is put in: nothing, whatever the words' versions.
func TestRelinkNothing(t *testing.T) {
	relinks(t, nil, 9)
	relinks(t, []Tower{}, 9)
	for _, l := range [][]seen{{{links: 1}}, {{links: 24}}, {{links: 3}, {links: 1}, {links: 2}, {links: 3}}, {{links: 1}, {}, {}, {}, {}}} {
		for _, version := range []int{0, 9, 1 << 30} {
			relinks(t, Towers(row(t, l...)), version)
		}
	}
	relinks(t, []Tower{{Handle: 3, Cells: []int{5}, Words: []int{word(0, 1<<30)}}}, 9)
	relinks(t, []Tower{{Handle: 3, Cells: []int{5, 6}, Words: []int{-1, 65536}}}, 9) // these lead to nobody, too
	relinks(t, []Tower{{Handle: 3}, {Handle: 4, Gone: true}}, 9)
}

// tall are the towers of a right row of 3, 1, 2, 3 and 1 links.
func tall(t *testing.T) []Tower {
	t.Helper()
	return Towers(row(t, seen{links: 3}, seen{links: 1}, seen{links: 2}, seen{links: 3}, seen{links: 1}))
}

// 18.1: Relink where one goes, several beside one another, the last one, the first one, all of them: tower by tower, cell by cell, from the word that stands there; none of a tower that goes.
func TestRelinkGone(t *testing.T) {
	cases := []struct {
		gone []int
		want []desc.Swap
	}{
		{[]int{1}, []desc.Swap{{Cell: 1000, Old: word(102, 0), New: word(103, 9)}}},
		{[]int{2}, []desc.Swap{{Cell: 1001, Old: word(103, 1), New: word(104, 9)}, {Cell: 1030, Old: word(103, 1), New: word(104, 9)}}},
		{[]int{1, 2}, []desc.Swap{{Cell: 1000, Old: word(102, 0), New: word(104, 9)}, {Cell: 1001, Old: word(103, 1), New: word(104, 9)}}},
		{[]int{3}, []desc.Swap{
			{Cell: 1002, Old: word(104, 2), New: word(0, 9)}, {Cell: 1060, Old: word(104, 2), New: word(105, 9)}, {Cell: 1061, Old: word(104, 3), New: word(0, 9)}}},
		{[]int{4}, []desc.Swap{{Cell: 1090, Old: word(105, 3), New: word(0, 9)}}},
		{[]int{2, 3}, []desc.Swap{
			{Cell: 1001, Old: word(103, 1), New: word(0, 9)}, {Cell: 1002, Old: word(104, 2), New: word(0, 9)}, {Cell: 1030, Old: word(103, 1), New: word(105, 9)}}},
		{[]int{1, 2, 3, 4}, []desc.Swap{
			{Cell: 1000, Old: word(102, 0), New: word(0, 9)}, {Cell: 1001, Old: word(103, 1), New: word(0, 9)}, {Cell: 1002, Old: word(104, 2), New: word(0, 9)}}},
		{[]int{1, 3}, []desc.Swap{
			{Cell: 1000, Old: word(102, 0), New: word(103, 9)}, {Cell: 1002, Old: word(104, 2), New: word(0, 9)},
			{Cell: 1060, Old: word(104, 2), New: word(105, 9)}, {Cell: 1061, Old: word(104, 3), New: word(0, 9)}}},
		{[]int{0}, nil},
		{[]int{0, 1}, nil},
		{[]int{0, 1, 2, 3, 4}, nil},
		{[]int{0, 2}, []desc.Swap{{Cell: 1030, Old: word(103, 1), New: word(104, 9)}}},
	}
	for _, x := range cases {
		l := tall(t)
		for _, i := range x.gone {
			l[i].Gone = true
		}
		relinks(t, l, 9, x.want...)
	}
}

// 18.1: Relink where one is put in, which leads to nobody yet, at each place; and of two.
func TestRelinkPut(t *testing.T) {
	in := Tower{Handle: 55, Cells: []int{71, 72}, Words: []int{0, word(9, 1)}}
	relinks(t, slices.Insert(tall(t), 0, in), 9, desc.Swap{Cell: 71, Old: 0, New: word(101, 9)}, desc.Swap{Cell: 72, Old: word(9, 1), New: word(101, 9)})
	relinks(t, slices.Insert(tall(t), 1, in), 9,
		desc.Swap{Cell: 1000, Old: word(102, 0), New: word(55, 9)}, desc.Swap{Cell: 1001, Old: word(103, 1), New: word(55, 9)},
		desc.Swap{Cell: 71, Old: 0, New: word(102, 9)}, desc.Swap{Cell: 72, Old: word(9, 1), New: word(103, 9)})
	relinks(t, slices.Insert(tall(t), 3, in), 9,
		desc.Swap{Cell: 1060, Old: word(104, 2), New: word(55, 9)}, desc.Swap{Cell: 1061, Old: word(104, 3), New: word(55, 9)},
		desc.Swap{Cell: 71, Old: 0, New: word(104, 9)}, desc.Swap{Cell: 72, Old: word(9, 1), New: word(104, 9)})
	relinks(t, slices.Insert(tall(t), 5, in), 9,
		desc.Swap{Cell: 1091, Old: word(0, 4), New: word(55, 9)}, desc.Swap{Cell: 1120, Old: word(0, 4), New: word(55, 9)},
		desc.Swap{Cell: 72, Old: word(9, 1), New: word(0, 9)})
	in.Gone = true
	relinks(t, slices.Insert(tall(t), 1, in), 9)
	two := []Tower{{Handle: 56, Cells: []int{81}, Words: []int{word(55, 4)}}, {Handle: 57, Cells: []int{82, 83}, Words: []int{word(102, 5), word(102, 6)}}}
	relinks(t, slices.Insert(tall(t), 1, two...), 9,
		desc.Swap{Cell: 1000, Old: word(102, 0), New: word(56, 9)}, desc.Swap{Cell: 1001, Old: word(103, 1), New: word(57, 9)},
		desc.Swap{Cell: 81, Old: word(55, 4), New: word(57, 9)}, desc.Swap{Cell: 83, Old: word(102, 6), New: word(103, 9)})
}

// 18.1: a word's version doesn't count, only whom it leads to; what stands there is what a swap is from, whichever it is; what it becomes has chapter 11's word, of versions at its edges, too.
func TestRelinkWords(t *testing.T) {
	for _, w := range []int{12, word(12, 1), word(12, 1<<30), word(12, 1<<32-1)} {
		relinks(t, []Tower{{Handle: 11, Cells: []int{5}, Words: []int{w}}, pile(12, 1)}, 9)
	}
	for _, w := range []int{0, 11, 13, word(0, 3), word(13, 1<<30), -1, 12 - 1<<31, 65536, word(65536, 3), math.MinInt, math.MaxInt, 12 + 1<<16} {
		for _, version := range []int{0, 1, 1 << 30} {
			relinks(t, []Tower{{Handle: 11, Cells: []int{5}, Words: []int{w}}, pile(12, 1)}, version, desc.Swap{Cell: 5, Old: w, New: word(12, version)})
		}
		for _, version := range []int{-1, 1<<30 + 1, math.MinInt, math.MaxInt} {
			relinks(t, []Tower{{Handle: 11, Cells: []int{-6}, Words: []int{w}}, pile(12, 1)}, version, desc.Swap{Cell: -6, Old: w, New: -1})
		}
	}
	for _, version := range []int{0, 1, 1 << 30} {
		relinks(t, []Tower{{Handle: 11, Cells: []int{5}, Words: []int{word(3, 4)}}}, version, desc.Swap{Cell: 5, Old: word(3, 4), New: word(0, version)})
	}
}

// 18.1: wrong towers, whose words are fewer than their cells, or more: no call panics; what stands has its swap.
func TestRelinkWrong(t *testing.T) {
	short := []Tower{{Handle: 11, Cells: []int{5, 6, 7}, Words: []int{3}}, pile(12, 2)}
	relinks(t, short, 9, desc.Swap{Cell: 5, Old: 3, New: word(12, 9)})
	long := []Tower{{Handle: 11, Cells: []int{5}, Words: []int{3, 4, 5}}, pile(12, 2)}
	relinks(t, long, 9, desc.Swap{Cell: 5, Old: 3, New: word(12, 9)})
	relinks(t, []Tower{{Handle: 11, Cells: []int{5}}, {Handle: 12, Words: []int{5}}}, 9)
}

// The chapter's example: three towers, the second one goes: Relink leads the first one to the third one.
func TestExample(t *testing.T) {
	l := Towers(row(t, seen{links: 2}, seen{links: 2}, seen{links: 1}))
	l[1].Gone = true
	relinks(t, l, 4, desc.Swap{Cell: 1000, Old: word(102, 0), New: word(103, 4)}, desc.Swap{Cell: 1001, Old: word(102, 1), New: word(0, 4)})
}
