package tower

import (
	"math"
	"reflect"
	"slices"
	"strings"
	"testing"

	"rundle/api"
	"rundle/desc"
	"rundle/key"
	"rundle/mem"
	"rundle/node"
	"rundle/rev"
	"rundle/step"
	"rundle/tag"
)

// told is what a call answered, whichever it is.
type told struct {
	h    int
	node node.Node
	view View
	row  []View
	err  api.Errno
}

// asking is one of the layer's calls.
type asking func(p *step.Port) told

func following(n node.Node, level int) asking {
	return func(p *step.Port) (x told) { x.h, x.err = Next(p, n, level); return x }
}

func searching(first int, k string) asking {
	return func(p *step.Port) (x told) { x.h, x.node, x.err = Search(p, first, k); return x }
}

func looking(h int) asking {
	return func(p *step.Port) (x told) { x.view, x.err = Look(p, h); return x }
}

func walking(first int) asking {
	return func(p *step.Port) (x told) { x.row, x.err = Walk(p, first); return x }
}

// plain lets lists without elements be nil, as the two are one.
func plain(x told) told {
	x.node, x.view = plainNode(x.node), plainView(x.view)
	if len(x.row) == 0 {
		x.row = nil
	}
	for i, v := range x.row {
		x.row[i] = plainView(v)
	}
	return x
}

func plainNode(n node.Node) node.Node {
	if len(n.Next) == 0 {
		n.Next = nil
	}
	return n
}

func plainView(v View) View {
	v.Node = plainNode(v.Node)
	if len(v.Links) == 0 {
		v.Links = nil
	}
	return v
}

// does does a call.
func does(m *mem.Mem, f asking) told {
	var x told
	step.Do(m, func(p *step.Port) any {
		x = f(p)
		return nil
	})
	return plain(x)
}

// wants holds what a call answers against what it should be.
func wants(t *testing.T, m *mem.Mem, f asking, want told) {
	t.Helper()
	if got := does(m, f); !reflect.DeepEqual(got, plain(want)) {
		t.Fatalf("%+v, want %+v", got, want)
	}
}

// fresh is memory whose cells are all free.
func fresh(t *testing.T, cells int) *mem.Mem {
	t.Helper()
	m, err := mem.New(cells)
	if err != api.OK {
		t.Fatalf("%d cells: %d", cells, err)
	}
	return m
}

// number lets a cell hold a word.
func number(t *testing.T, m *mem.Mem, n int) int {
	t.Helper()
	h, err := m.AllocWord(n)
	if err != api.OK {
		t.Fatalf("AllocWord(%d): %d", n, err)
	}
	return h
}

// block lets a cell hold a block.
func block(t *testing.T, m *mem.Mem, b any) int {
	t.Helper()
	h, err := m.Alloc(b)
	if err != api.OK {
		t.Fatalf("Alloc(%v): %d", b, err)
	}
	return h
}

// frees frees a cell that is there.
func frees(t *testing.T, m *mem.Mem, h int) {
	t.Helper()
	if err := m.Free(h); err != api.OK {
		t.Fatalf("Free(%d): %d", h, err)
	}
}

// stores lets a cell that is there hold another word.
func stores(t *testing.T, m *mem.Mem, h, n int) {
	t.Helper()
	if err := m.Store(h, n); err != api.OK {
		t.Fatalf("Store(%d, %d): %d", h, n, err)
	}
}

// image is all that memory holds under handles of its first generations.
func image(m *mem.Mem) map[int]any {
	held := map[int]any{}
	for place := range m.Cells() {
		for gen := range 6 {
			h := gen*65536 + place + 1
			if n, err := m.Word(h); err == api.OK {
				held[h] = n
			} else if b, err := m.Load(h); err == api.OK {
				held[h] = b
			}
		}
	}
	return held
}

// refuses wants a call to answer an error, beside nothing, and to change nothing.
func refuses(t *testing.T, m *mem.Mem, f asking, want api.Errno) {
	t.Helper()
	before := image(m)
	wants(t, m, f, told{err: want})
	if now := image(m); !reflect.DeepEqual(now, before) {
		t.Fatalf("behind the error %d memory is %v, was %v", want, now, before)
	}
}

// asks is how often a call asks.
func asks(m *mem.Mem, f asking) int {
	before := m.Count()
	does(m, f)
	return m.Count() - before
}

// of is a revision of a version, of a span, with an entry at its Lo, if that may be a key.
func of(t *testing.T, version int, sp key.Span) rev.Rev {
	t.Helper()
	var l []api.Entry
	if key.Right(sp.Lo) && key.Has(sp, sp.Lo) {
		l = append(l, api.Entry{Key: sp.Lo, Value: "v"})
	}
	r, err := rev.New(version, version+1, sp, l)
	if err != api.OK {
		t.Fatalf("a revision of %d: %d", version, err)
	}
	return r
}

// lays lays ages of revisions, the first one as the newest; its handle.
func lays(t *testing.T, m *mem.Mem, l ...rev.Rev) int {
	t.Helper()
	before := 0
	step.Do(m, func(p *step.Port) any {
		for _, r := range slices.Backward(l) {
			h, err := node.Lay(p, r, before)
			if err != api.OK {
				t.Fatalf("Lay: %d", err)
			}
			before = h
		}
		return nil
	})
	return before
}

// makes makes a node; its handle, and it.
func makes(t *testing.T, m *mem.Mem, low string, head int, links ...int) (int, node.Node) {
	t.Helper()
	h := 0
	step.Do(m, func(p *step.Port) any {
		var err api.Errno
		if h, err = node.Make(p, low, head, links); err != api.OK {
			t.Fatalf("Make: %d", err)
		}
		return nil
	})
	return h, loads(t, m, h)
}

// loads is the node of a handle.
func loads(t *testing.T, m *mem.Mem, h int) node.Node {
	t.Helper()
	var n node.Node
	step.Do(m, func(p *step.Port) any {
		var err api.Errno
		if n, err = node.Load(p, h); err != api.OK {
			t.Fatalf("Load(%d): %d", h, err)
		}
		return nil
	})
	return plainNode(n)
}

// spansOf are the spans of a row of nodes of these Lows.
func spansOf(lows []string) []key.Span {
	var l []key.Span
	for i, low := range lows {
		sp := key.Span{Lo: low, All: i+1 == len(lows)}
		if !sp.All {
			sp.Hi = lows[i+1]
		}
		l = append(l, sp)
	}
	return l
}

// behind is the place of the first node behind another one that has more links than level; -1: there is none.
func behind(heights []int, i, level int) int {
	for j := i + 1; j < len(heights); j++ {
		if heights[j] > level {
			return j
		}
	}
	return -1
}

// rows makes nodes of these Lows, with so many links each, so that they are a right row; their handles. Each word has a version of its own.
func rows(t *testing.T, m *mem.Mem, lows []string, heights []int) []int {
	t.Helper()
	var hs []int
	for i, sp := range spansOf(lows) {
		head := lays(t, m, of(t, 3*i+2, sp), of(t, 3*i+1, key.Span{Lo: sp.Lo, All: true}))
		h, _ := makes(t, m, lows[i], head, make([]int, heights[i])...)
		hs = append(hs, h)
	}
	version := 0
	for i, h := range hs {
		for level, c := range loads(t, m, h).Next {
			to := 0
			if j := behind(heights, i, level); j >= 0 {
				to = hs[j]
			}
			stores(t, m, c, tag.Word(to, version))
			version++
		}
	}
	return hs
}

// letters are so many Lows, the first one empty.
func letters(n int) []string {
	l := []string{""}
	for i := 1; i < n; i++ {
		l = append(l, strings.Repeat("z", i/20)+string(rune('b'+i%20)))
	}
	slices.Sort(l)
	return l
}

// same are so many heights, all alike.
func same(n, height int) []int {
	l := make([]int, n)
	for i := range l {
		l[i] = height
	}
	return l
}

// odd are numbers that are handles of nothing in memory of few cells that are of their first generations.
var odd = []int{0, -1, 1000, 65536, 65537 + 65536*16000, 1 << 30, 1 << 40, math.MinInt, math.MaxInt}

// stales are handles that are stale: some that were never told, and one of what was freed, whose cell holds something else meanwhile.
func stales(t *testing.T, m *mem.Mem) []int {
	t.Helper()
	h := number(t, m, 5)
	frees(t, m, h)
	number(t, m, 6)
	return append([]int{h}, odd...)
}

// wrong is a handle with which something can't be done, and the error that tells it.
type wrong struct {
	h    int
	want api.Errno
}

// wrongs are handles of what is stale, or is neither node, age nor word.
func wrongs(t *testing.T, m *mem.Mem) []wrong {
	t.Helper()
	var l []wrong
	for _, h := range stales(t, m) {
		l = append(l, wrong{h, api.ErrStale})
	}
	for _, b := range []any{"b", 7, true, &node.Node{}, &node.Age{}, rev.Tomb(3), desc.Desc{}, []int{1}, View{}, []View{{}}} {
		l = append(l, wrong{block(t, m, b), api.ErrKind})
	}
	return l
}

// wrongNodes are handles of what is no node.
func wrongNodes(t *testing.T, m *mem.Mem) []wrong {
	t.Helper()
	return append(wrongs(t, m), wrong{number(t, m, 1), api.ErrKind}, wrong{lays(t, m, rev.Tomb(1)), api.ErrKind})
}

// wrongWords are handles of what is no word.
func wrongWords(t *testing.T, m *mem.Mem) []wrong {
	t.Helper()
	h, _ := makes(t, m, "", 0)
	return append(wrongs(t, m), wrong{h, api.ErrKind}, wrong{lays(t, m, rev.Tomb(1)), api.ErrKind})
}

// wrongAges are handles of what is no age.
func wrongAges(t *testing.T, m *mem.Mem) []wrong {
	t.Helper()
	h, _ := makes(t, m, "", 0)
	return append(wrongs(t, m), wrong{h, api.ErrKind}, wrong{number(t, m, 1), api.ErrKind})
}

// 17.1: Next of each level: whom the link leads to, whatever the version of its word; 0 of nobody, and of a word that is none; ErrArg of a level below 0, of as many as there are links, and of more.
func TestNext(t *testing.T) {
	m := fresh(t, 60)
	words := []struct{ word, to int }{
		{0, 0}, {tag.Word(0, 7), 0}, {tag.Word(5, 0), 5}, {tag.Word(5, 7), 5}, {tag.Word(65537, 1), 65537}, {tag.Word(9, api.MaxVersion), 9},
		{tag.Handle(65534, tag.MaxGen), tag.Handle(65534, tag.MaxGen)}, {-1, 0}, {math.MinInt, 0}, {65536, 0}, {math.MaxInt, tag.To(math.MaxInt)}, {1 << 31, 0}, {1<<61 | 3, 3},
	}
	var links []int
	for _, x := range words {
		links = append(links, x.word)
	}
	_, n := makes(t, m, "c", 0, links...)
	for level, x := range words {
		wants(t, m, following(n, level), told{h: x.to})
		one := node.Node{Low: "z", Next: n.Next[level : level+1]}
		wants(t, m, following(one, 0), told{h: x.to})
		refuses(t, m, following(one, 1), api.ErrArg)
		if k := asks(m, following(n, level)); k != 1 {
			t.Fatalf("Next asked %d times", k)
		}
	}
	_, none := makes(t, m, "c", 0)
	for _, level := range []int{-1, -2, math.MinInt, math.MaxInt, len(links), len(links) + 1} {
		refuses(t, m, following(n, level), api.ErrArg)
		refuses(t, m, following(none, level), api.ErrArg)
		refuses(t, m, following(node.Node{}, level), api.ErrArg)
	}
	refuses(t, m, following(none, 0), api.ErrArg)
	refuses(t, m, following(node.Node{}, 0), api.ErrArg)
}

// 17.1: Next of a link whose cell isn't there any more, or holds no word: what memory tells; the other levels answer as ever.
func TestNextWrong(t *testing.T) {
	m := fresh(t, 60)
	good := number(t, m, tag.Word(4, 2))
	for _, x := range wrongWords(t, m) {
		n := node.Node{Next: []int{good, x.h, good}}
		refuses(t, m, following(n, 1), x.want)
		wants(t, m, following(n, 0), told{h: 4})
		wants(t, m, following(n, 2), told{h: 4})
		refuses(t, m, following(n, 3), api.ErrArg)
	}
}

// asked are texts that are searched: Lows, what stands just ahead of them, just behind them, between them, and above all of them.
func asked(lows []string) []string {
	l := []string{"", "\x00", "a", "\xff\xff", strings.Repeat("z", 2000)}
	for _, low := range lows {
		l = append(l, low, low+"\x00", low+"a", low+"\xff")
		if n := len(low); n > 0 {
			last := low[n-1]
			l = append(l, low[:n-1], low[:n-1]+string([]byte{last - 1}), low[:n-1]+string([]byte{last - 1, 0xff}), low[:n-1]+string([]byte{last + 1}))
		}
	}
	return l
}

// lastUpTo is the place of the last node whose Low isn't greater than a text, from a place on.
func lastUpTo(lows []string, from int, k string) int {
	at := from
	for i := from; i < len(lows); i++ {
		if lows[i] <= k {
			at = i
		}
	}
	return at
}

// wantSearches holds Search in a row that is right, from each node, for many texts, against the last node whose Low isn't greater; and how often it asks against what it may.
func wantSearches(t *testing.T, m *mem.Mem, hs []int, lows []string, heights []int) {
	t.Helper()
	for from := range hs {
		for _, k := range asked(lows) {
			at := lastUpTo(lows, from, k)
			f := searching(hs[from], k)
			wants(t, m, f, told{h: hs[at], node: loads(t, m, hs[at])})
			if n, most := asks(m, f), 2*(len(hs)-from+heights[from])+1; n > most {
				t.Fatalf("Search of %q asked %d times, of %d nodes and %d levels", k, n, len(hs)-from, heights[from])
			}
		}
	}
}

// 17.1: Search over one node and many, of one level, of the same levels, of levels that rise, that fall, and that are drawn, from each node: the last one whose Low isn't greater, or the one where one begins.
func TestSearch(t *testing.T) {
	d := drawer(5)
	for _, lows := range [][]string{{""}, {"", "c"}, {"", "c", "f"}, {"", "\x00", "\x00\x00", "\x01", "a", "a\x00", "aa", "ab", "b", "\xfe", "\xff"}, letters(9), letters(30), {"d", "h"}} {
		n := len(lows)
		shapes := [][]int{same(n, 1), same(n, 2), same(n, api.MaxLevels)}
		rising, falling := make([]int, n), make([]int, n)
		for i := range n {
			rising[i], falling[i] = i+1, n-i
		}
		shapes = append(shapes, rising, falling)
		for range 4 {
			drawn := make([]int, n)
			for i := range drawn {
				drawn[i] = 1 + d.below(5)
			}
			drawn[0] = 5
			shapes = append(shapes, drawn)
		}
		for _, heights := range shapes {
			if n == 30 && slices.Max(heights) > 8 {
				continue
			}
			m := fresh(t, 1500)
			hs := rows(t, m, lows, heights)
			wantSearches(t, m, hs, lows, heights)
		}
	}
}

// 17.1: how often Search asks, at most: where each level leads too far, and where one goes on along the lowest level alone.
func TestSearchAsks(t *testing.T) {
	for _, x := range []struct{ nodes, levels int }{{1, 1}, {1, 24}, {2, 1}, {2, 24}, {40, 1}, {10, 5}} {
		m := fresh(t, 1500)
		hs := rows(t, m, letters(x.nodes), same(x.nodes, x.levels))
		for _, k := range []string{"", "\xff"} {
			if n := asks(m, searching(hs[0], k)); n > 2*(x.nodes+x.levels)+1 {
				t.Fatalf("%d nodes, %d levels, %q: %d asks", x.nodes, x.levels, k, n)
			}
		}
	}
	// Each level leads one node on, and too far then: so it asks twice of each, and once of the first node.
	m := fresh(t, 300)
	lows := letters(12)
	heights := []int{6, 5, 4, 3, 2, 1, 1, 2, 3, 4, 5, 6}
	hs := rows(t, m, lows, heights)
	wants(t, m, searching(hs[0], lows[5]), told{h: hs[5], node: loads(t, m, hs[5])})
	if n := asks(m, searching(hs[0], lows[5])); n > 2*(12+6)+1 || n < 2*6+1 {
		t.Fatalf("%d asks", n)
	}
}

// 17.1: the links that no row has: some lead past nodes, to nobody early, or to one that hasn't the level on which one came: ErrArg of the last one, as soon as one is there, and only then.
func TestSearchLinks(t *testing.T) {
	m := fresh(t, 60)
	var hs []int
	for i, low := range []string{"", "c", "f", "h"} {
		h, _ := makes(t, m, low, lays(t, m, rev.Tomb(i)), make([]int, []int{3, 1, 2, 0}[i])...)
		hs = append(hs, h)
	}
	leads := func(i, level, to int) {
		t.Helper()
		w := 0
		if to >= 0 {
			w = tag.Word(hs[to], 5)
		}
		stores(t, m, loads(t, m, hs[i]).Next[level], w)
	}
	goes := func(from int, k string, to int) {
		t.Helper()
		wants(t, m, searching(hs[from], k), told{h: hs[to], node: loads(t, m, hs[to])})
	}
	leads(0, 0, 1)
	goes(0, "z", 1) // it leads to nobody
	leads(1, 0, 2)
	goes(0, "z", 2)
	leads(0, 1, 2)
	goes(0, "e", 1)
	goes(0, "f", 2)
	leads(0, 2, 3)
	goes(0, "g", 2)
	goes(1, "g", 2)
	refuses(t, m, searching(hs[0], "h"), api.ErrArg) // h has no link at all
	goes(1, "h", 2)
	leads(2, 1, 3)
	goes(2, "g\xff", 2)
	refuses(t, m, searching(hs[2], "h"), api.ErrArg)
	goes(1, "h", 2)
	leads(0, 2, 1)
	goes(0, "b", 0)
	refuses(t, m, searching(hs[0], "c"), api.ErrArg) // c has one level, and one came on the third
	refuses(t, m, searching(hs[0], "z"), api.ErrArg)
	leads(0, 2, 0-1)
	leads(0, 1, 1)
	refuses(t, m, searching(hs[0], "c"), api.ErrArg) // and now on the second
	goes(0, "b\xff", 0)
	leads(0, 1, -1)
	goes(0, "g", 2)
	leads(2, 0, 3)
	refuses(t, m, searching(hs[0], "i"), api.ErrArg)
	leads(0, 0, 2)
	goes(0, "d", 0) // one comes past c
	for _, k := range []string{"", "a", "h", "z"} {
		refuses(t, m, searching(hs[3], k), api.ErrArg)
	}
}

// 17.2: Look of a node without links, with one, with 24 and more, of one age and of many: its handle, its block, what its links hold, its newest age; each of its words is asked once.
func TestLook(t *testing.T) {
	for _, links := range [][]int{nil, {0}, {7}, {tag.Word(3, 8)}, odd, same(api.MaxLevels, -5), same(40, tag.Word(1, 1))} {
		for _, ages := range []int{1, 2, 9} {
			for _, low := range []string{"", "c", "\xff\x00"} {
				m := fresh(t, 80)
				number(t, m, 70)
				var l []rev.Rev
				for i := range ages {
					l = append(l, of(t, 50-3*i, key.Span{Lo: low, Hi: low + "z"}))
				}
				if ages == 2 {
					l[0] = rev.Tomb(99)
				}
				head := lays(t, m, l...)
				h, n := makes(t, m, low, head, links...)
				wants(t, m, looking(h), told{view: View{Handle: h, Node: n, Links: links, Head: head, Rev: l[0]}})
				if k := asks(m, looking(h)); k != 3+len(links) {
					t.Fatalf("Look of %d links asked %d times", len(links), k)
				}
			}
		}
	}
}

// 17.2: Walk of one node, and of many: a view of each along the lowest links, in order, whatever the higher ones tell.
func TestWalk(t *testing.T) {
	d := drawer(9)
	for _, n := range []int{1, 2, 3, 12} {
		for range 5 {
			heights := make([]int, n)
			for i := range heights {
				heights[i] = 1 + d.below(4)
			}
			m := fresh(t, 400)
			hs := rows(t, m, letters(n), heights)
			for _, h := range hs { // whom the others lead to doesn't count
				for _, c := range loads(t, m, h).Next[1:] {
					if d.below(2) == 0 {
						stores(t, m, c, d.of(odd))
					}
				}
			}
			var want []View
			sum := 0
			for _, h := range hs {
				want = append(want, does(m, looking(h)).view)
				sum += 3 + len(want[len(want)-1].Links)
			}
			for from := range hs {
				wants(t, m, walking(hs[from]), told{row: want[from:]})
			}
			if k := asks(m, walking(hs[0])); k != sum {
				t.Fatalf("Walk asked %d times, its nodes have %d cells, and ages", k, sum)
			}
		}
	}
}

// 17.2: Walk ends at a node whose lowest link leads to nobody, whatever its word, and at one that has none.
func TestWalkEnds(t *testing.T) {
	for _, w := range []int{0, tag.Word(0, 9), -1, 65536, math.MinInt, 1 << 40} {
		m := fresh(t, 60)
		hs := rows(t, m, letters(3), []int{2, 2, 1})
		all := does(m, walking(hs[0])).row
		stores(t, m, loads(t, m, hs[2]).Next[0], w)
		all[2].Links = []int{w}
		wants(t, m, walking(hs[0]), told{row: all})
		stores(t, m, loads(t, m, hs[1]).Next[0], w)
		all[1].Links[0] = w
		wants(t, m, walking(hs[0]), told{row: all[:2]})
	}
	m := fresh(t, 60)
	head := lays(t, m, rev.Tomb(3))
	last, n := makes(t, m, "d", head)
	first, f := makes(t, m, "", head, tag.Word(last, 3))
	want := []View{{Handle: first, Node: f, Links: []int{tag.Word(last, 3)}, Head: head, Rev: rev.Tomb(3)}, {Handle: last, Node: n, Head: head, Rev: rev.Tomb(3)}}
	wants(t, m, walking(first), told{row: want})
	wants(t, m, walking(last), told{row: want[1:]})
}

// 17.1, 17.2: Search, Look and Walk of what is no node, at the start and in the midst: the error that tells it. Search comes to it where it has to look at its Low alone.
func TestWrongNode(t *testing.T) {
	for i := range wrongNodes(t, fresh(t, 60)) {
		m := fresh(t, 80)
		x := wrongNodes(t, m)[i]
		for _, f := range []asking{searching(x.h, ""), searching(x.h, "z"), looking(x.h), walking(x.h)} {
			refuses(t, m, f, x.want)
		}
		if tag.To(x.h) == 0 {
			continue
		}
		lows := []string{"", "c", "f", "h"}
		hs := rows(t, m, lows, []int{3, 1, 2, 3})
		stores(t, m, loads(t, m, hs[1]).Next[0], tag.Word(tag.To(x.h), 4))
		refuses(t, m, walking(hs[0]), x.want)
		refuses(t, m, walking(hs[1]), x.want)
		refuses(t, m, searching(hs[0], "c"), x.want)
		refuses(t, m, searching(hs[1], ""), x.want)
		wants(t, m, searching(hs[0], "b"), told{h: hs[0], node: loads(t, m, hs[0])})
		wants(t, m, searching(hs[0], "f"), told{h: hs[2], node: loads(t, m, hs[2])})
		stores(t, m, loads(t, m, hs[0]).Next[2], tag.Word(tag.To(x.h), 4))
		refuses(t, m, searching(hs[0], ""), x.want)
		refuses(t, m, searching(hs[0], "z"), x.want)
	}
}

// 17.1, 17.2: a node whose link's cell isn't there any more, or holds no word: Search ends with that, where it asks for it, Look and Walk in any case.
func TestWrongLink(t *testing.T) {
	for i := range wrongWords(t, fresh(t, 60)) {
		for level := range 3 {
			m := fresh(t, 80)
			x := wrongWords(t, m)[i]
			hs := rows(t, m, []string{"", "h"}, []int{3, 3})
			links := make([]int, 3)
			for j := range links {
				links[j] = number(t, m, tag.Word(hs[1], 2))
			}
			links[level] = x.h
			bad := block(t, m, node.Node{Low: "c", Head: number(t, m, lays(t, m, rev.Tomb(1))), Next: links})
			refuses(t, m, looking(bad), x.want)
			refuses(t, m, walking(bad), x.want)
			refuses(t, m, searching(bad, "d"), x.want)
			for _, c := range loads(t, m, hs[0]).Next {
				stores(t, m, c, tag.Word(bad, 3))
			}
			refuses(t, m, walking(hs[0]), x.want)
			refuses(t, m, searching(hs[0], "g"), x.want)
			wants(t, m, searching(hs[0], "b"), told{h: hs[0], node: loads(t, m, hs[0])})
			if level < 2 { // the highest one leads on
				wants(t, m, searching(bad, "h"), told{h: hs[1], node: loads(t, m, hs[1])})
			} else {
				refuses(t, m, searching(bad, "h"), x.want)
			}
		}
	}
}

// 17.2: a node whose head's cell isn't there any more, or holds no word, or whose head tells no age: Look and Walk end with that, at the start and in the midst; Search doesn't ask for it.
func TestWrongHead(t *testing.T) {
	spoilt := func(m *mem.Mem, head int, want api.Errno) {
		t.Helper()
		hs := rows(t, m, []string{"", "h"}, []int{1, 1})
		bad := block(t, m, node.Node{Low: "c", Head: head, Next: []int{number(t, m, tag.Word(hs[1], 2))}})
		stores(t, m, loads(t, m, hs[0]).Next[0], tag.Word(bad, 9))
		for _, f := range []asking{looking(bad), walking(bad), walking(hs[0])} {
			refuses(t, m, f, want)
		}
		wants(t, m, searching(hs[0], "d"), told{h: bad, node: loads(t, m, bad)})
		wants(t, m, searching(hs[0], "z"), told{h: hs[1], node: loads(t, m, hs[1])})
	}
	for i := range wrongWords(t, fresh(t, 60)) {
		m := fresh(t, 80)
		x := wrongWords(t, m)[i]
		spoilt(m, x.h, x.want)
	}
	for i := range wrongAges(t, fresh(t, 60)) {
		m := fresh(t, 80)
		x := wrongAges(t, m)[i]
		spoilt(m, number(t, m, x.h), x.want)
	}
}

// 17.1, 17.2: a cell goes while a call is at work: it answers what it would have answered, or ends with what memory tells, beside nothing.
func TestStaleMeanwhile(t *testing.T) {
	ends := map[api.Errno]int{}
	for steps := range 30 {
		for kind := range 4 {
			build := func() (*mem.Mem, asking, []int) {
				m := fresh(t, 80)
				hs := rows(t, m, []string{"", "c", "f", "h"}, []int{3, 1, 2, 1})
				var cells []int
				for h := range image(m) {
					cells = append(cells, h)
				}
				slices.Sort(cells)
				return m, []asking{searching(hs[0], "d"), searching(hs[0], "z"), looking(hs[2]), walking(hs[0])}[kind], cells
			}
			m, f, cells := build()
			want := does(m, f)
			for i := range cells {
				m, f, _ := build()
				x := step.New(m, func(p *step.Port) any { return plain(f(p)) })
				for range steps {
					x.Step()
				}
				frees(t, m, cells[i])
				for !x.Step() {
				}
				out, _ := x.Out().(told)
				if !reflect.DeepEqual(out, want) && !reflect.DeepEqual(out, told{err: api.ErrStale}) {
					t.Fatalf("the cell %d is freed behind %d steps: %+v, want %+v", cells[i], steps, out, want)
				}
				ends[out.err]++
			}
		}
	}
	if ends[api.OK] < 200 || ends[api.ErrStale] < 200 {
		t.Fatalf("calls ended with %v", ends)
	}
}

// 17.2: an age behind the newest one isn't asked for, so it may be what it will.
func TestLookNoFurther(t *testing.T) {
	m := fresh(t, 20)
	r := of(t, 4, key.Whole())
	head := block(t, m, node.Age{Rev: r, Prev: 999})
	h, n := makes(t, m, "", head, 0)
	v := View{Handle: h, Node: n, Links: []int{0}, Head: head, Rev: r}
	wants(t, m, looking(h), told{view: v})
	wants(t, m, walking(h), told{row: []View{v}})
}

// scribble changes all that a list has, spare room included.
func scribble(l []int) {
	for i := range l[:cap(l)] {
		l[:cap(l)][i] = -77
	}
}

// Rule 4: the lists that Search, Look and Walk answer are new memory, spare room included: no two of one answer, nor of two answers, share any, nor do they with what memory holds.
func TestNewMemory(t *testing.T) {
	m := fresh(t, 100)
	hs := rows(t, m, letters(4), []int{4, 3, 4, 1})
	all := does(m, walking(hs[0])).row
	want := does(m, walking(hs[0])).row
	for i := range all {
		scribble(all[i].Links)
		if !reflect.DeepEqual(all[i].Node, want[i].Node) {
			t.Fatalf("the links' words share memory with the links' cells")
		}
		scribble(all[i].Node.Next)
		if !reflect.DeepEqual(all[i+1:], want[i+1:]) {
			t.Fatalf("two views of one row share their lists")
		}
	}
	wants(t, m, walking(hs[0]), told{row: want})
	for i, h := range hs {
		v := does(m, looking(h)).view
		scribble(v.Links)
		scribble(v.Node.Next)
		wants(t, m, looking(h), told{view: want[i]})
		n := does(m, searching(hs[0], want[i].Node.Low)).node
		scribble(n.Next)
		wants(t, m, searching(hs[0], want[i].Node.Low), told{h: h, node: want[i].Node})
	}
}

// Rule 3: calls of this layer change nothing, whatever they answer.
func TestNothingChanges(t *testing.T) {
	m := fresh(t, 100)
	hs := rows(t, m, letters(5), []int{3, 1, 2, 3, 1})
	before := image(m)
	for _, h := range append(hs, odd...) {
		for _, f := range []asking{searching(h, "c"), searching(h, "\xff"), looking(h), walking(h), following(loads(t, m, hs[0]), 1)} {
			does(m, f)
		}
	}
	if !reflect.DeepEqual(image(m), before) {
		t.Fatalf("memory is %v, was %v", image(m), before)
	}
	n := loads(t, m, hs[0])
	links := append(slices.Clone(n.Next), 900, 901)
	n.Next = links[:3]
	does(m, following(n, 2))
	if !slices.Equal(links[3:], []int{900, 901}) || !slices.Equal(links[:3], loads(t, m, hs[0]).Next) {
		t.Fatalf("what was handed in is %v", links)
	}
}

// The chapter's example: nodes of Low nothing, c, f: Search of d tells that of c.
func TestExample(t *testing.T) {
	for _, heights := range [][]int{{1, 1, 1}, {3, 1, 2}, {2, 2, 2}} {
		m := fresh(t, 40)
		hs := rows(t, m, []string{"", "c", "f"}, heights)
		wants(t, m, searching(hs[0], "d"), told{h: hs[1], node: loads(t, m, hs[1])})
	}
}
