package tower

import (
	"math"
	"reflect"
	"slices"
	"testing"

	"rundle/api"
	"rundle/key"
	"rundle/node"
	"rundle/rev"
	"rundle/tag"
)

// linked is a view of a handle, with so many links.
func linked(h, links int) View {
	return View{Handle: h, Links: make([]int, links)}
}

// 17.3: To of a place below 0, of the last one, behind the row, of a level below 0, of one that none has, of one that the next view has, and of one that only a later one has.
func TestTo(t *testing.T) {
	l := []View{linked(11, 4), linked(12, 1), linked(13, 2), linked(14, 0), linked(15, 4), linked(16, 1)}
	cases := []struct{ i, level, want int }{
		{0, 0, 12}, {0, 1, 13}, {0, 2, 15}, {0, 3, 15}, {0, 4, 0}, {0, 5, 0}, {0, math.MaxInt, 0}, {0, -1, 0}, {0, math.MinInt, 0},
		{1, 0, 13}, {1, 1, 13}, {1, 2, 15}, {2, 0, 15}, {2, 1, 15}, {3, 0, 15}, {3, 3, 15}, {4, 0, 16}, {4, 1, 0}, {4, 3, 0},
		{5, 0, 0}, {5, -1, 0}, {6, 0, 0}, {7, 0, 0}, {100, 0, 0}, {math.MaxInt, 0, 0}, {math.MaxInt - 1, 0, 0},
		{-1, 0, 0}, {-1, 3, 0}, {-2, 0, 0}, {math.MinInt, 0, 0}, {-1, -1, 0},
	}
	for _, x := range cases {
		if h := To(l, x.i, x.level); h != x.want {
			t.Fatalf("To(%d, %d): %d, want %d", x.i, x.level, h, x.want)
		}
	}
	for _, i := range []int{-1, 0, 1} {
		if To(nil, i, 0) != 0 || To([]View{linked(3, 3)}, i, 0) != 0 {
			t.Fatalf("To of a place %d of no view, or of one, tells somebody", i)
		}
	}
}

// 17.3: what To tells is the handle as it is, and hangs on how many links views have, not on what these hold.
func TestToHandle(t *testing.T) {
	for _, h := range odd {
		l := []View{linked(4, 1), {Handle: h, Links: []int{tag.Word(4, 7), -5}}}
		for level, want := range []int{h, h, 0} {
			if got := To(l, 0, level); got != want {
				t.Fatalf("To: %d, want %d", got, want)
			}
		}
	}
}

// rightRow is a right row of these Lows, with so many links each, handles from 101 on.
func rightRow(t *testing.T, lows []string, heights []int) []View {
	t.Helper()
	var l []View
	for i, sp := range spansOf(lows) {
		v := View{Handle: 101 + i, Node: node.Node{Low: sp.Lo, Head: 500 + i}, Head: 700 + i, Rev: of(t, i, sp)}
		for level := range heights[i] {
			to := 0
			if j := behind(heights, i, level); j >= 0 {
				to = 101 + j
			}
			v.Links = append(v.Links, tag.Word(to, 3*i+level))
			v.Node.Next = append(v.Node.Next, 600+30*i+level)
		}
		l = append(l, v)
	}
	return l
}

// 17.3: Right of no view, of one, and of many.
func TestRight(t *testing.T) {
	if Right(nil) || Right([]View{}) || Right([]View{{}}) || Right(make([]View, 3)) {
		t.Fatalf("what are no views is a right row")
	}
	if !Right([]View{{Handle: 5, Links: []int{0}, Rev: rev.Rev{Span: key.Whole()}}}) {
		t.Fatalf("one node of all keys isn't right")
	}
	for _, x := range []struct {
		lows    []string
		heights []int
	}{
		{[]string{""}, []int{1}}, {[]string{""}, []int{24}}, {[]string{"", "c"}, []int{1, 1}}, {[]string{"", "c"}, []int{24, 24}}, {[]string{"", "c"}, []int{4, 1}},
		{[]string{"", "c", "f"}, []int{3, 1, 2}}, {letters(20), same(20, 3)}, {[]string{"", "\x00", "\x00\x00"}, []int{2, 2, 1}},
	} {
		if !Right(rightRow(t, x.lows, x.heights)) {
			t.Fatalf("%v, %v isn't right", x.lows, x.heights)
		}
	}
}

// 17.3: a Hi that counts for nothing, words of any version, and words of nobody are right; so are what a revision has beside its span, and what a node's cells are.
func TestRightWhatever(t *testing.T) {
	l := rightRow(t, []string{"", "c", "f"}, []int{3, 1, 2})
	l[2].Rev.Span.Hi = "a"
	l[2].Links[1], l[2].Links[0] = -1, 65536
	l[0].Links[0] = tag.Word(102, api.MaxVersion)
	l[1].Rev.Version, l[1].Rev.Rate, l[1].Rev.Keys = -5, -7, nil
	l[1].Head, l[1].Node.Head, l[1].Node.Next = 0, 0, nil
	if !Right(l) {
		t.Fatalf("%+v isn't right", l)
	}
}

// spoil is one thing for which a row isn't right.
type spoil struct {
	name string
	do   func(l []View) []View
}

// spoils are all that there are, of rows of three nodes of 3, 1 and 2 links.
func spoils() []spoil {
	var out []spoil
	at := func(name string, i int, f func(v *View)) {
		out = append(out, spoil{name, func(l []View) []View { f(&l[i]); return l }})
	}
	at("the first one's Low, with its span's", 0, func(v *View) { v.Node.Low, v.Rev.Span.Lo = "\x00", "\x00" })
	at("the first one's Low", 0, func(v *View) { v.Node.Low = "a" })
	for i := range 3 {
		at("a dead revision", i, func(v *View) { v.Rev = rev.Tomb(4) })
		at("dead, with a span", i, func(v *View) { v.Rev.Dead = true })
		at("a span that begins elsewhere", i, func(v *View) { v.Rev.Span.Lo += "\x00" })
		at("no link", i, func(v *View) { v.Links = nil })
		at("nor any, by a list", i, func(v *View) { v.Links = []int{} })
		for level := range []int{3, 1, 2}[i] {
			for _, h := range []int{100, 101, 102, 103, 104, 1, 0} {
				at("a link that leads elsewhere", i, func(v *View) {
					to := h
					if to == tag.To(v.Links[level]) {
						to = 777
					}
					v.Links[level] = tag.Word(to, 3)
				})
			}
		}
	}
	for i := 1; i < 3; i++ {
		at("a further one's Low, with its span's", i, func(v *View) { v.Node.Low, v.Rev.Span.Lo = v.Node.Low+"\x00", v.Node.Low+"\x00" })
		at("a further one's Low", i, func(v *View) { v.Node.Low += "\x00" })
		at("more links than the first one", i, func(v *View) { v.Links = append(v.Links, same(4-len(v.Links), 0)...) })
		at("the same Low once more", i, func(v *View) { v.Node.Low, v.Rev.Span.Lo = "", "" })
	}
	for i := range 2 {
		at("no end ahead of the last one", i, func(v *View) { v.Rev.Span.All = true })
		at("no end, and no Hi", i, func(v *View) { v.Rev.Span.All, v.Rev.Span.Hi = true, "" })
		at("an end behind the next one's Low", i, func(v *View) { v.Rev.Span.Hi += "\x00" })
		at("an end ahead of the next one's Low", i, func(v *View) { v.Rev.Span.Hi = v.Rev.Span.Lo + "\x00" })
	}
	at("an end at the last one", 2, func(v *View) { v.Rev.Span.All, v.Rev.Span.Hi = false, "z" })
	at("an end at the last one, which is empty", 2, func(v *View) { v.Rev.Span.All, v.Rev.Span.Hi = false, "f" })
	add := func(name string, f func(l []View) []View) { out = append(out, spoil{name, f}) }
	add("a span that is empty", func(l []View) []View {
		l[1].Rev.Span.Hi, l[2].Node.Low, l[2].Rev.Span.Lo = "c", "c", "c"
		return l
	})
	add("the first one's span is empty", func(l []View) []View {
		l[0].Rev.Span.Hi, l[1].Node.Low, l[1].Rev.Span.Lo = "", "", ""
		return l
	})
	add("a span that isn't good", func(l []View) []View {
		l[1].Rev.Span.Hi, l[2].Node.Low, l[2].Rev.Span.Lo = "b", "b", "b"
		return l
	})
	add("without the last one", func(l []View) []View { return l[:2] })
	add("without the first one", func(l []View) []View { return l[1:] })
	add("without one in the midst", func(l []View) []View { return slices.Delete(l, 1, 2) })
	add("backwards", func(l []View) []View { slices.Reverse(l); return l })
	add("two changed places", func(l []View) []View { l[1], l[2] = l[2], l[1]; return l })
	add("one twice", func(l []View) []View { return slices.Insert(l, 1, l[1]) })
	add("the last one twice", func(l []View) []View { return append(l, l[2]) })
	add("less links at the first one", func(l []View) []View { l[0].Links = l[0].Links[:1]; return l })
	add("another handle", func(l []View) []View { l[1].Handle = 900; return l })
	return out
}

// 17.3: Right of rows that are right but for one thing.
func TestNotRight(t *testing.T) {
	for _, x := range spoils() {
		l := rightRow(t, []string{"", "c", "f"}, []int{3, 1, 2})
		if !Right(l) {
			t.Fatalf("what is spoilt isn't right")
		}
		if bad := x.do(l); Right(bad) {
			t.Fatalf("%s: %+v is right", x.name, bad)
		}
	}
	one := func(f func(v *View)) {
		t.Helper()
		l := rightRow(t, []string{""}, []int{2})
		f(&l[0])
		if Right(l) {
			t.Fatalf("%+v is right", l)
		}
	}
	one(func(v *View) { v.Rev = rev.Tomb(4) })
	one(func(v *View) { v.Rev.Span = key.Span{Hi: "z"} })
	one(func(v *View) { v.Rev.Span = key.Span{} })
	one(func(v *View) { v.Rev.Span.Lo = "a" })
	one(func(v *View) { v.Node.Low = "a" })
	one(func(v *View) { v.Node.Low, v.Rev.Span.Lo = "a", "a" })
	one(func(v *View) { v.Links = nil })
	one(func(v *View) { v.Links[1] = 101 })
	one(func(v *View) { v.Links[0] = 5 })
}

// Rule 4: To and Right leave what is handed in as it is, spare room included.
func TestRowStays(t *testing.T) {
	row := func() []View { return rightRow(t, []string{"", "c", "f", "h", "i"}, []int{3, 1, 2, 3, 1}) }
	for i := range 6 {
		l := row()
		To(l[:i], 0, 1)
		To(l[:i], i, 0)
		Right(l[:i])
		if !reflect.DeepEqual(l, row()) {
			t.Fatalf("the row is %+v", l)
		}
	}
}

// 17.4: rows that Right lets be, drawn: from their first node Search tells the node in whose span a text lies, and no text lies in two.
func TestSearchInRight(t *testing.T) {
	for seed := range 120 {
		d := drawer(seed)
		lows := []string{""}
		for len(lows) < 1+seed%14 {
			lows = append(lows, d.text(4))
			slices.Sort(lows)
			lows = slices.Compact(lows)
		}
		heights := []int{1 + d.below(6)}
		for len(heights) < len(lows) {
			heights = append(heights, 1+d.below(heights[0]))
		}
		m := fresh(t, 400)
		hs := rows(t, m, lows, heights)
		l := does(m, walking(hs[0])).row
		if len(l) != len(lows) || !Right(l) {
			t.Fatalf("the row of %q, %v isn't right", lows, heights)
		}
		ks := asked(lows)
		for range 30 {
			ks = append(ks, d.text(5))
		}
		for _, k := range ks {
			x := does(m, searching(hs[0], k))
			in := slices.DeleteFunc(slices.Clone(l), func(v View) bool { return !key.Has(v.Rev.Span, k) })
			if len(in) != 1 || x.err != api.OK || x.h != in[0].Handle || !reflect.DeepEqual(x.node, in[0].Node) {
				t.Fatalf("%q in %q: %+v, it lies in %+v", k, lows, x, in)
			}
		}
	}
}
