package node

import (
	"math"
	"reflect"
	"slices"
	"testing"

	"rundle/api"
	"rundle/desc"
	"rundle/key"
	"rundle/mem"
	"rundle/rev"
	"rundle/step"
)

// told is what a call answered, whichever it is.
type told struct {
	h     int
	age   Age
	node  Node
	ok    bool
	cells []int
	err   api.Errno
}

// asking is one of the layer's calls.
type asking func(p *step.Port) told

func laying(r rev.Rev, before int) asking {
	return func(p *step.Port) (x told) { x.h, x.err = Lay(p, r, before); return x }
}

func making(low string, head int, links ...int) asking {
	return func(p *step.Port) (x told) { x.h, x.err = Make(p, low, head, links); return x }
}

func taking(h int) asking {
	return func(p *step.Port) (x told) { x.age, x.err = Take(p, h); return x }
}

func loading(h int) asking {
	return func(p *step.Port) (x told) { x.node, x.err = Load(p, h); return x }
}

func lifting(h int) asking {
	return func(p *step.Port) (x told) { x.err = Lift(p, h); return x }
}

func undoing(h int) asking {
	return func(p *step.Port) (x told) { x.err = Undo(p, h); return x }
}

func newestOf(n Node) asking {
	return func(p *step.Port) (x told) { x.h, x.age, x.err = Newest(p, n); return x }
}

func askingAt(n Node, version int) asking {
	return func(p *step.Port) (x told) { x.age, x.ok, x.err = At(p, n, version); return x }
}

func felling(h int) asking {
	return func(p *step.Port) (x told) { x.cells, x.err = Fell(p, h); return x }
}

func cutting(n Node, least int) asking {
	return func(p *step.Port) (x told) { x.cells, x.err = Cut(p, n, least); return x }
}

// plain lets lists without elements be nil, as the two are one.
func plain(x told) told {
	if len(x.cells) == 0 {
		x.cells = nil
	}
	if len(x.node.Next) == 0 {
		x.node.Next = nil
	}
	return x
}

// does does a call.
func does(m *mem.Mem, f asking) told {
	var x told
	step.Do(m, func(p *step.Port) any {
		x = f(p)
		return nil
	})
	return plain(x)
}

// wants holds what a call answers against what it should be.
func wants(t *testing.T, m *mem.Mem, f asking, want told) {
	t.Helper()
	if got := does(m, f); !reflect.DeepEqual(got, plain(want)) {
		t.Fatalf("%+v, want %+v", got, want)
	}
}

// fresh is memory whose cells are all free.
func fresh(t *testing.T, cells int) *mem.Mem {
	t.Helper()
	m, err := mem.New(cells)
	if err != api.OK {
		t.Fatalf("%d cells: %d", cells, err)
	}
	return m
}

// number lets a cell hold a word.
func number(t *testing.T, m *mem.Mem, n int) int {
	t.Helper()
	h, err := m.AllocWord(n)
	if err != api.OK {
		t.Fatalf("AllocWord(%d): %d", n, err)
	}
	return h
}

// block lets a cell hold a block.
func block(t *testing.T, m *mem.Mem, b any) int {
	t.Helper()
	h, err := m.Alloc(b)
	if err != api.OK {
		t.Fatalf("Alloc(%v): %d", b, err)
	}
	return h
}

// frees frees a cell that is there.
func frees(t *testing.T, m *mem.Mem, h int) {
	t.Helper()
	if err := m.Free(h); err != api.OK {
		t.Fatalf("Free(%d): %d", h, err)
	}
}

// holds holds the word of a cell against what it should be.
func holds(t *testing.T, m *mem.Mem, h, want int) {
	t.Helper()
	if n, err := m.Word(h); n != want || err != api.OK {
		t.Fatalf("the word of %d: %d, %d, want %d", h, n, err, want)
	}
}

// room fills memory up to so many free cells.
func room(t *testing.T, m *mem.Mem, left int) {
	t.Helper()
	for m.Live() < m.Cells()-left {
		number(t, m, 70)
	}
}

// image is all that memory holds under handles of its first generations.
func image(m *mem.Mem) map[int]any {
	held := map[int]any{}
	for place := range m.Cells() {
		for gen := range 6 {
			h := gen*65536 + place + 1
			if n, err := m.Word(h); err == api.OK {
				held[h] = n
			} else if b, err := m.Load(h); err == api.OK {
				held[h] = b
			}
		}
	}
	return held
}

// refuses wants a call to answer an error, beside nothing, and to change nothing.
func refuses(t *testing.T, m *mem.Mem, f asking, want api.Errno) {
	t.Helper()
	before := image(m)
	wants(t, m, f, told{err: want})
	if now := image(m); !reflect.DeepEqual(now, before) {
		t.Fatalf("behind the error %d memory is %v, was %v", want, now, before)
	}
}

// at is a revision of a version, of two entries.
func at(t *testing.T, version int) rev.Rev {
	t.Helper()
	r, err := rev.New(version, version+1, key.Whole(), []api.Entry{{Key: "a", Value: "x"}, {Key: "b", Gone: true}})
	if err != api.OK {
		t.Fatalf("a revision of %d: %d", version, err)
	}
	return r
}

// lays lays an age, which memory has room for.
func lays(t *testing.T, m *mem.Mem, r rev.Rev, before int) int {
	t.Helper()
	x := does(m, laying(r, before))
	if x.err != api.OK {
		t.Fatalf("Lay: %d", x.err)
	}
	return x.h
}

// makes makes a node, which memory has room for; its handle, and it.
func makes(t *testing.T, m *mem.Mem, low string, head int, links ...int) (int, Node) {
	t.Helper()
	x := does(m, making(low, head, links...))
	if x.err != api.OK {
		t.Fatalf("Make: %d", x.err)
	}
	n := does(m, loading(x.h))
	if n.err != api.OK {
		t.Fatalf("Load: %d", n.err)
	}
	return x.h, n.node
}

// age is the age of a handle.
func age(t *testing.T, m *mem.Mem, h int) Age {
	t.Helper()
	x := does(m, taking(h))
	if x.err != api.OK {
		t.Fatalf("Take(%d): %d", h, x.err)
	}
	return x.age
}

// chained is a node without links whose chain has ages of these versions, the newest one first; and their handles.
func chained(t *testing.T, m *mem.Mem, versions ...int) (Node, []int) {
	t.Helper()
	hs, before := make([]int, len(versions)), 0
	for i := len(versions) - 1; i >= 0; i-- {
		before = lays(t, m, at(t, versions[i]), before)
		hs[i] = before
	}
	_, n := makes(t, m, "k", before)
	return n, hs
}

// pairs are the handles of ages, and the cells of their prevs, one behind the other.
func pairs(t *testing.T, m *mem.Mem, hs []int) []int {
	t.Helper()
	var l []int
	for _, h := range hs {
		l = append(l, h, age(t, m, h).Prev)
	}
	return l
}

// ends wants a chain to have just these ages, from a handle on.
func ends(t *testing.T, m *mem.Mem, hs ...int) {
	t.Helper()
	for i, h := range hs {
		next := 0
		if i+1 < len(hs) {
			next = hs[i+1]
		}
		holds(t, m, age(t, m, h).Prev, next)
	}
}

// odd are numbers that are handles of nothing in memory of few cells that are of their first generations.
var odd = []int{0, -1, 1000, 65536, 65537 + 65536*16000, 1 << 30, 1 << 40, math.MinInt, math.MaxInt}

// stales are handles that are stale: some that were never told, and one of what was freed, whose cell holds something else meanwhile.
func stales(t *testing.T, m *mem.Mem) []int {
	t.Helper()
	h := number(t, m, 5)
	frees(t, m, h)
	number(t, m, 6)
	return append([]int{h}, odd...)
}

// revisions are such of several kinds.
func revisions(t *testing.T) []rev.Rev {
	t.Helper()
	r, err := rev.New(9, 40, key.Span{Lo: "b", Hi: "d"}, []api.Entry{{Key: "b", Value: ""}, {Key: "bb", Gone: true}, {Key: "c\xff", Value: "v"}})
	if err != api.OK {
		t.Fatalf("a revision: %d", err)
	}
	return []rev.Rev{{}, rev.Tomb(0), rev.Tomb(api.MaxVersion), r, rev.Clean(r), at(t, 0), at(t, -3)}
}

// 16.1: Lay, over 0, over an age's handle, and over any number: two cells, the prev holds it; Take answers what was laid, entry by entry.
func TestLay(t *testing.T) {
	for _, r := range revisions(t) {
		for _, before := range append([]int{3, 1, 2}, odd...) {
			m := fresh(t, 5)
			number(t, m, 70)
			first := lays(t, m, rev.Tomb(1), 0)
			if before == 3 {
				before = first
			}
			h := lays(t, m, r, before)
			a := age(t, m, h)
			if !reflect.DeepEqual(a.Rev, r) || !slices.Equal(rev.Entries(a.Rev), rev.Entries(r)) {
				t.Fatalf("Take: %+v, want %+v", a.Rev, r)
			}
			holds(t, m, a.Prev, before)
			if m.Live() != 5 || h == a.Prev || h == first || m.Stale() != 0 {
				t.Fatalf("Lay over %d: %d, %d, %d cells live", before, h, a.Prev, m.Live())
			}
			if b := age(t, m, first); !reflect.DeepEqual(b.Rev, rev.Tomb(1)) {
				t.Fatalf("the age before is %+v", b)
			}
			holds(t, m, age(t, m, first).Prev, 0)
		}
	}
}

// 16.1: ages that are laid over one age have cells of their own.
func TestLayTwice(t *testing.T) {
	m := fresh(t, 6)
	first := lays(t, m, at(t, 1), 0)
	a, b := lays(t, m, at(t, 2), first), lays(t, m, at(t, 2), first)
	l := pairs(t, m, []int{first, a, b})
	slices.Sort(l)
	if len(slices.Compact(l)) != 6 || m.Live() != 6 {
		t.Fatalf("the cells of three ages: %v", l)
	}
	ends(t, m, a, first)
	ends(t, m, b, first)
}

// linked are as many links as are asked for, unlike ones.
func linked(n int) []int {
	var l []int
	for i := range n {
		l = append(l, 900-7*i)
	}
	return l
}

// 16.1: Make, with no link, with one, with 24, and with more: the head holds head, the links hold these, in order; Load answers what was made; Own tells its cells, in order.
func TestMake(t *testing.T) {
	for _, links := range [][]int{nil, {}, {5}, {0}, {0, 0}, {7, -7}, odd, linked(api.MaxLevels), linked(100)} {
		for _, low := range []string{"", "c", "\xff\x00", string(make([]byte, 2000))} {
			for _, head := range odd {
				m := fresh(t, len(links)+3)
				number(t, m, 70)
				h, n := makes(t, m, low, head, links...)
				if n.Low != low || len(n.Next) != len(links) || m.Live() != m.Cells() || m.Stale() != 0 {
					t.Fatalf("Make(%q, %d, %v): %+v, %d cells live", low, head, links, n, m.Live())
				}
				holds(t, m, n.Head, head)
				for i, w := range links {
					holds(t, m, n.Next[i], w)
				}
				own := Own(h, n)
				if !slices.Equal(own, slices.Concat([]int{h, n.Head}, n.Next)) {
					t.Fatalf("Own: %v of %d, %+v", own, h, n)
				}
				slices.Sort(own)
				if len(slices.Compact(own)) != len(links)+2 || own[0] != 2 {
					t.Fatalf("the cells of a node: %v", own)
				}
			}
		}
	}
}

// 16.1: Own of any node: the handle, the head's cell, the links' cells, in this order.
func TestOwn(t *testing.T) {
	cases := []struct {
		h    int
		n    Node
		want []int
	}{
		{0, Node{}, []int{0, 0}},
		{7, Node{Low: "a", Head: 5}, []int{7, 5}},
		{7, Node{Head: 5, Next: []int{9, 3, 4}}, []int{7, 5, 9, 3, 4}},
		{-1, Node{Head: 5, Next: []int{5, 5}}, []int{-1, 5, 5, 5}},
		{math.MaxInt, Node{Head: math.MinInt, Next: []int{0}}, []int{math.MaxInt, math.MinInt, 0}},
	}
	for _, x := range cases {
		if l := Own(x.h, x.n); !slices.Equal(l, x.want) {
			t.Fatalf("Own(%d, %+v): %v", x.h, x.n, l)
		}
	}
}

// 16.1: the links that are handed in to Make aren't kept, and stay what they are, spare room included.
func TestMakeKeepsNothing(t *testing.T) {
	m := fresh(t, 10)
	links := []int{4, 5, 6, 7, 8}
	h, n := makes(t, m, "a", 3, links[:3]...)
	if !slices.Equal(links, []int{4, 5, 6, 7, 8}) {
		t.Fatalf("the links are %v", links)
	}
	clear(links)
	wants(t, m, loading(h), told{node: n})
	for i, w := range []int{4, 5, 6} {
		holds(t, m, n.Next[i], w)
	}
}

// Rule 4: the links that Load answers, and the cells that Own answers, are new memory, spare room included; what is handed in to Own stays what it is.
func TestLoadIsNew(t *testing.T) {
	for _, links := range []int{0, 1, 3, 24} {
		m := fresh(t, 30)
		h, n := makes(t, m, "a", 3, linked(links)...)
		want := slices.Clone(n.Next)
		other := does(m, loading(h)).node
		for i := range n.Next[:cap(n.Next)] {
			n.Next[:cap(n.Next)][i] = -5
		}
		if !slices.Equal(other.Next, want) {
			t.Fatalf("two answers share their links: %v, want %v", other.Next, want)
		}
		wants(t, m, loading(h), told{node: Node{Low: "a", Head: n.Head, Next: want}})
		spare := append(slices.Clone(want), -7, -8, -9)
		mine := Node{Head: 1, Next: spare[:len(want)]}
		own := Own(h, mine)
		for i := range own[:cap(own)] {
			own[:cap(own)][i] = -5
		}
		if !slices.Equal(spare, append(slices.Clone(want), -7, -8, -9)) {
			t.Fatalf("Own changed what was handed in: %v", spare)
		}
	}
}

// 16.1: Lift frees the two cells of an age, and no others: the chain behind it stays, and so does what tells it.
func TestLift(t *testing.T) {
	for i := range 4 {
		m := fresh(t, 20)
		n, hs := chained(t, m, 9, 7, 4, 2)
		cells := pairs(t, m, hs)
		want := image(m)
		delete(want, cells[2*i])
		delete(want, cells[2*i+1])
		wants(t, m, lifting(hs[i]), told{})
		if now := image(m); !reflect.DeepEqual(now, want) {
			t.Fatalf("behind Lift memory is %v, want %v", now, want)
		}
		if i > 0 {
			holds(t, m, cells[2*i-1], hs[i])
		}
		ends(t, m, hs[i+1:]...)
		refuses(t, m, lifting(hs[i]), api.ErrStale)
		wants(t, m, taking(hs[i]), told{err: api.ErrStale})
		holds(t, m, n.Head, hs[0])
	}
}

// 16.1: Undo frees the cells of a node, and no others: the chain under it stays.
func TestUndo(t *testing.T) {
	for _, links := range []int{0, 1, 2, 24, 40} {
		m := fresh(t, 60)
		first, hs := chained(t, m, 9, 7, 4)
		want := image(m)
		h, n := makes(t, m, "z", hs[0], linked(links)...)
		wants(t, m, undoing(h), told{})
		if now := image(m); !reflect.DeepEqual(now, want) {
			t.Fatalf("behind Undo memory is %v, want %v", now, want)
		}
		for _, c := range Own(h, n) {
			if m.Free(c) != api.ErrStale {
				t.Fatalf("the cell %d of the node isn't free", c)
			}
		}
		refuses(t, m, undoing(h), api.ErrStale)
		ends(t, m, hs...)
		holds(t, m, first.Head, hs[0])
	}
}

// 16.1: Lay and Make over memory with too few cells left, by one up to by all: ErrFull; as many cells live as before, and all that are free may be used.
func TestFull(t *testing.T) {
	full := func(f asking, needs int) {
		t.Helper()
		for left := range needs {
			m := fresh(t, needs+3)
			room(t, m, left)
			refuses(t, m, f, api.ErrFull)
			if live := m.Live(); live != needs+3-left {
				t.Fatalf("%d cells live, were %d", live, needs+3-left)
			}
			room(t, m, 0)
		}
		m := fresh(t, needs+3)
		room(t, m, needs)
		if x := does(m, f); x.err != api.OK || m.Live() != needs+3 || m.Stale() != 0 {
			t.Fatalf("there is just room enough: %+v, %d cells live", x, m.Live())
		}
	}
	full(laying(at(t, 4), 0), 2)
	full(laying(rev.Tomb(4), 1), 2)
	for _, links := range []int{0, 1, 2, 24} {
		full(making("a", 1, linked(links)...), links+2)
	}
}

// 16.1: Lay and Make find memory full in the midst, since others take its cells meanwhile: what they had is freed again.
func TestFullInTheMidst(t *testing.T) {
	full := func(f asking, needs int) {
		t.Helper()
		for steps := range needs {
			m := fresh(t, 40)
			x := machine(m, f)
			for range steps {
				x.Step()
			}
			room(t, m, 0)
			for range 100 {
				x.Step()
			}
			if out := ending(t, x); !reflect.DeepEqual(out, told{err: api.ErrFull}) || m.Live() != 40-steps || m.Stale() != 0 {
				t.Fatalf("full behind %d steps: %+v, %d cells live", steps, out, m.Live())
			}
		}
	}
	full(laying(at(t, 4), 0), 2)
	for _, links := range []int{0, 1, 5, 24} {
		full(making("a", 1, linked(links)...), links+2)
	}
}

// 16.1, 16.3: Take, Lift and Fell of a node's handle, of a word's, and of a block of another type, and Load and Undo of an age's handle, of a word's, and of such a block: ErrKind; nothing is changed.
func TestWrongKind(t *testing.T) {
	m := fresh(t, 40)
	a := lays(t, m, at(t, 3), lays(t, m, at(t, 2), 0))
	n, nd := makes(t, m, "a", a, 1, 2)
	others := []int{nd.Head, nd.Next[0], nd.Next[1], age(t, m, a).Prev, number(t, m, a), number(t, m, n), number(t, m, 0)}
	for _, b := range []any{"b", 7, a, n, true, &Age{}, &Node{}, rev.Tomb(3), at(t, 3), desc.Desc{}, []int{1}, (*Age)(nil), spot{}} {
		others = append(others, block(t, m, b))
	}
	for _, h := range append([]int{n}, others...) {
		for _, f := range []asking{taking(h), lifting(h), felling(h)} {
			refuses(t, m, f, api.ErrKind)
		}
	}
	for _, h := range append([]int{a}, others...) {
		for _, f := range []asking{loading(h), undoing(h)} {
			refuses(t, m, f, api.ErrKind)
		}
	}
}

// 16.1, 16.3: Take, Lift, Load and Undo of 0, and these and Fell of a handle that was never told, and of one that was freed: ErrStale; Fell of 0 tells nothing.
func TestWrongHandle(t *testing.T) {
	m := fresh(t, 20)
	a := lays(t, m, at(t, 3), 0)
	h, _ := makes(t, m, "a", a, 1, 2)
	wants(t, m, lifting(a), told{})
	wants(t, m, undoing(h), told{})
	for _, x := range append(stales(t, m), a, h) {
		for _, f := range []asking{taking(x), lifting(x), loading(x), undoing(x)} {
			refuses(t, m, f, api.ErrStale)
		}
		if x != 0 {
			refuses(t, m, felling(x), api.ErrStale)
		}
	}
	before := m.Count()
	wants(t, m, felling(0), told{})
	if m.Count() != before {
		t.Fatalf("Fell of 0 asked memory")
	}
}

// 16.1: Lift of an age whose prev isn't there, and Undo of a node of which a word isn't: ErrStale; the other cells stay.
func TestHalf(t *testing.T) {
	m := fresh(t, 10)
	a := lays(t, m, at(t, 3), 0)
	frees(t, m, age(t, m, a).Prev)
	refuses(t, m, lifting(a), api.ErrStale)
	for i := 1; i < 5; i++ {
		m := fresh(t, 10)
		h, n := makes(t, m, "a", 1, 2, 3, 4)
		frees(t, m, Own(h, n)[i])
		refuses(t, m, undoing(h), api.ErrStale)
		wants(t, m, loading(h), told{node: n})
	}
}

// 16.1: a cell of an age, or of a node, gets stale while Lift, or Undo, is at it: it ends with that.
func TestHalfMeanwhile(t *testing.T) {
	stale := 0
	for steps := range 12 {
		for i := range 6 {
			m := fresh(t, 10)
			a := lays(t, m, at(t, 3), 0)
			h, n := makes(t, m, "a", a, 3, 4)
			cells := slices.Concat(Own(h, n), pairs(t, m, []int{a}))
			f := undoing(h)
			if i > 3 {
				f = lifting(a)
			}
			x := machine(m, f)
			for range steps {
				x.Step()
			}
			want := told{}
			if ended := x.Ended(); m.Free(cells[i]) == api.OK && !ended {
				want.err, stale = api.ErrStale, stale+1
			}
			for !x.Step() {
			}
			if out := ending(t, x); !reflect.DeepEqual(out, want) {
				t.Fatalf("the cell %d is freed behind %d steps: %+v, want %+v", i, steps, out, want)
			}
		}
	}
	if stale < 20 {
		t.Fatalf("%d ended with an error", stale)
	}
}

// 16.2: Newest of a node of one age, of two, and of many: the handle that the head tells, and its age; also when another age was laid over it.
func TestNewest(t *testing.T) {
	for _, versions := range [][]int{{4}, {5, 4}, {9, 8, 7, 6, 5, 4, 3, 2, 1, 0}} {
		m := fresh(t, 40)
		n, hs := chained(t, m, versions...)
		a := age(t, m, hs[0])
		if a.Rev.Version != versions[0] {
			t.Fatalf("the newest age is %+v", a)
		}
		wants(t, m, newestOf(n), told{h: hs[0], age: a})
		ends(t, m, hs...)
		over := lays(t, m, rev.Tomb(20), hs[0])
		m.Store(n.Head, over)
		wants(t, m, newestOf(n), told{h: over, age: age(t, m, over)})
		ends(t, m, append([]int{over}, hs...)...)
	}
}

// 16.2: At of versions below the oldest age's, of each age's own, between two, and above the newest one; chains of one age; ages of one version, and such as don't fall: the first one counts.
func TestAt(t *testing.T) {
	cases := []struct {
		versions []int
		at       int
		want     int // its place in the chain; -1: none
	}{
		{[]int{4}, 4, 0}, {[]int{4}, 5, 0}, {[]int{4}, 3, -1}, {[]int{4}, math.MaxInt, 0}, {[]int{4}, math.MinInt, -1},
		{[]int{0}, 0, 0}, {[]int{0}, -1, -1}, {[]int{0}, 1, 0},
		{[]int{7, 5, 2}, 8, 0}, {[]int{7, 5, 2}, 7, 0}, {[]int{7, 5, 2}, 6, 1}, {[]int{7, 5, 2}, 5, 1}, {[]int{7, 5, 2}, 4, 2},
		{[]int{7, 5, 2}, 3, 2}, {[]int{7, 5, 2}, 2, 2}, {[]int{7, 5, 2}, 1, -1}, {[]int{7, 5, 2}, 0, -1}, {[]int{7, 5, 2}, -1, -1},
		{[]int{7, 5, 2}, math.MaxInt, 0}, {[]int{7, 5, 2}, math.MinInt, -1},
		{[]int{api.MaxVersion, 0}, api.MaxVersion, 0}, {[]int{api.MaxVersion, 0}, api.MaxVersion - 1, 1},
		{[]int{5, 5, 5}, 5, 0}, {[]int{6, 5, 5}, 5, 1}, {[]int{6, 5, 5}, 4, -1},
		{[]int{6, 3, 5}, 5, 1}, {[]int{3, 5, 6}, 9, 0}, {[]int{6, 2, 5, 1}, 1, 3},
		{[]int{-1, -4}, -2, 1}, {[]int{-1, -4}, -1, 0}, {[]int{0, math.MinInt}, math.MinInt, 1},
	}
	for _, x := range cases {
		m := fresh(t, 20)
		n, hs := chained(t, m, x.versions...)
		before := image(m)
		want := told{}
		if x.want >= 0 {
			want = told{age: age(t, m, hs[x.want]), ok: true}
		}
		wants(t, m, askingAt(n, x.at), want)
		if !reflect.DeepEqual(image(m), before) {
			t.Fatalf("At changed memory")
		}
	}
}

// 16.2: dead ages are ages: At answers them as others.
func TestAtDead(t *testing.T) {
	m := fresh(t, 10)
	n, hs := chained(t, m, 4)
	dead := lays(t, m, rev.Tomb(6), hs[0])
	m.Store(n.Head, dead)
	wants(t, m, askingAt(n, 6), told{age: age(t, m, dead), ok: true})
	wants(t, m, askingAt(n, 5), told{age: age(t, m, hs[0]), ok: true})
	wants(t, m, askingAt(n, 3), told{})
	wants(t, m, newestOf(n), told{h: dead, age: age(t, m, dead)})
}

// 16.3: Fell of an age with nothing behind it, with one, and with many: of each its handle, and the cell of its prev, one behind the other; all prevs are 0 then, and no cell is freed; a second time there is nothing behind it.
func TestFell(t *testing.T) {
	for many := 1; many < 9; many++ {
		for i := range many {
			m := fresh(t, 30)
			n, hs := chained(t, m, linked(many)...)
			want := pairs(t, m, hs)
			live, before := m.Live(), m.Count()
			wants(t, m, felling(hs[i]), told{cells: want[2*i:]})
			if asks := m.Count() - before; asks != 3*(many-i)-1 {
				t.Fatalf("Fell of %d ages: %d asks; the last prev is asked, but not swapped", many-i, asks)
			}
			ends(t, m, hs[:i+1]...)
			for _, h := range hs[i:] {
				ends(t, m, h)
			}
			holds(t, m, n.Head, hs[0])
			if m.Live() != live || m.Stale() != 0 {
				t.Fatalf("%d cells live, were %d", m.Live(), live)
			}
			wants(t, m, felling(hs[i]), told{cells: want[2*i : 2*i+2]})
			wants(t, m, felling(hs[0]), told{cells: want[:2*i+2]})
		}
	}
}

// machine is a machine of a call.
func machine(m *mem.Mem, f asking) *step.Machine {
	return step.New(m, func(p *step.Port) any { return plain(f(p)) })
}

// ending is what a machine's call answered.
func ending(t *testing.T, x *step.Machine) told {
	t.Helper()
	out, ok := x.Out().(told)
	if !ok {
		t.Fatalf("a machine answered %v", x.Out())
	}
	return out
}

// 16.3: somebody else takes a prev ahead of each of Fell's steps, also between the ask of that prev and its swap: who takes it has what is behind it, and the other one has nothing of it.
func TestFellTakenMeanwhile(t *testing.T) {
	taken, early := 0, 0
	for steps := range 20 {
		for i := range 4 {
			m := fresh(t, 20)
			_, hs := chained(t, m, 9, 7, 4, 2)
			want := pairs(t, m, hs)
			x := machine(m, felling(hs[0]))
			for range steps {
				x.Step()
			}
			next := append(slices.Clone(hs), 0)[i+1]
			if n, _ := m.Word(want[2*i+1]); n != 0 {
				m.Swap(want[2*i+1], next, 0)
				want = want[:2*i+2]
				taken++
			} else {
				early++
			}
			for !x.Step() {
			}
			if out := ending(t, x); !reflect.DeepEqual(out, told{cells: want}) {
				t.Fatalf("the prev %d is taken behind %d steps: %+v, want %v", i, steps, out, want)
			}
		}
	}
	if taken < 10 || early < 10 {
		t.Fatalf("%d were taken ahead, %d weren't", taken, early)
	}
}

// 16.3: a prev that tells another age when it is swapped than when it was asked isn't taken.
func TestFellChangedMeanwhile(t *testing.T) {
	changed := 0
	for steps := range 12 {
		m := fresh(t, 20)
		_, hs := chained(t, m, 9, 7)
		other := lays(t, m, at(t, 1), 0)
		want := pairs(t, m, []int{hs[0], hs[1], other})
		x := machine(m, felling(hs[0]))
		for range steps {
			x.Step()
		}
		before, _ := m.Word(want[1])
		m.Store(want[1], other)
		for !x.Step() {
		}
		out, now := ending(t, x), 0
		if n, _ := m.Word(want[1]); n == other {
			now = other
		}
		switch {
		case now == 0: // it was swapped ahead of its ask
			want = slices.Concat(want[:2], want[4:])
		case before != 0:
			want, changed = want[:2], changed+1
		default:
			want = want[:4]
		}
		if !reflect.DeepEqual(out, told{cells: want}) {
			t.Fatalf("changed behind %d steps: %+v, want %v", steps, out, want)
		}
	}
	if changed == 0 {
		t.Fatal("it was never changed between its ask and its swap")
	}
}

// 16.3: Cut with nothing behind the age that At tells, with no age that At tells, with the newest one, the oldest one, and one between: what is behind it is told, and its prev is 0; a second time nothing is told.
func TestCut(t *testing.T) {
	cases := []struct {
		versions []int
		least    int
		stays    int // how many ages stay
	}{
		{[]int{4}, 4, 1}, {[]int{4}, 9, 1}, {[]int{4}, 3, 1}, {[]int{4}, math.MinInt, 1}, {[]int{4}, math.MaxInt, 1},
		{[]int{7, 5, 2}, 9, 1}, {[]int{7, 5, 2}, 7, 1}, {[]int{7, 5, 2}, 6, 2}, {[]int{7, 5, 2}, 5, 2}, {[]int{7, 5, 2}, 4, 3},
		{[]int{7, 5, 2}, 2, 3}, {[]int{7, 5, 2}, 1, 3}, {[]int{7, 5, 2}, -1, 3}, {[]int{7, 5, 2}, math.MaxInt, 1}, {[]int{7, 5, 2}, math.MinInt, 3},
		{[]int{9, 8, 7, 6, 5, 4, 3, 2, 1, 0}, 6, 4}, {[]int{9, 8, 7, 6, 5, 4, 3, 2, 1, 0}, 9, 1}, {[]int{9, 8, 7, 6, 5, 4, 3, 2, 1, 0}, 1, 9},
		{[]int{5, 5, 5}, 5, 1}, {[]int{6, 3, 5}, 5, 2}, {[]int{6, 3, 5}, 3, 2},
	}
	for _, x := range cases {
		m := fresh(t, 30)
		n, hs := chained(t, m, x.versions...)
		want := pairs(t, m, hs[x.stays:])
		then := image(m)
		for _, h := range hs[x.stays-1:] {
			then[age(t, m, h).Prev] = 0
		}
		wants(t, m, cutting(n, x.least), told{cells: want})
		if now := image(m); !reflect.DeepEqual(now, then) {
			t.Fatalf("behind Cut(%v, %d) memory is %v, want %v", x.versions, x.least, now, then)
		}
		ends(t, m, hs[:x.stays]...)
		for _, least := range []int{x.least, x.least, math.MinInt} {
			wants(t, m, cutting(n, least), told{})
		}
	}
}

// 16.3: a chain is cut again and again, each time at a later version, while ages are laid over it: each is told once, and At tells what it told, from that version on.
func TestCutAgain(t *testing.T) {
	m := fresh(t, 200)
	n, hs := chained(t, m, 0)
	var all []int
	for version := 1; version < 60; version++ {
		h := lays(t, m, at(t, version), hs[len(hs)-1])
		m.Store(n.Head, h)
		hs = append(hs, h)
		if version%7 != 0 {
			continue
		}
		all = append(all, does(m, cutting(n, version-3)).cells...)
		for v := range version + 2 {
			x := does(m, askingAt(n, v))
			if v < version-3 && x.ok || v >= version-3 && x.age.Rev.Version != min(v, version) {
				t.Fatalf("At(%d), cut at %d: %+v", v, version-3, x)
			}
		}
	}
	want := pairs(t, m, hs[:53])
	slices.Sort(all)
	slices.Sort(want)
	if !slices.Equal(all, want) {
		t.Fatalf("%v were told, want %v", all, want)
	}
}

// 16.3: what is told by Fell and by Cut is unlike, each once, and none of it belongs to an age that stands; the lists are new memory.
func TestToldOnce(t *testing.T) {
	m := fresh(t, 30)
	n, hs := chained(t, m, 9, 8, 7, 6, 5, 4)
	stands := pairs(t, m, hs[:3])
	cut := does(m, cutting(n, 7)).cells
	kept := slices.Clone(cut)
	fell := does(m, felling(hs[1])).cells
	if all := slices.Concat(cut, stands); len(cut) != 6 || len(fell) != 4 || !slices.Equal(fell, stands[2:]) {
		t.Fatalf("%v and %v were told", cut, fell)
	} else if slices.Sort(all); len(slices.Compact(all)) != 12 {
		t.Fatalf("cells are told twice: %v", all)
	}
	before := image(m)
	for _, l := range [][]int{cut, fell} {
		for i := range l[:cap(l)] {
			l[:cap(l)][i] = -5
		}
	}
	if !reflect.DeepEqual(image(m), before) || !slices.Equal(kept, pairs(t, m, hs[3:])) {
		t.Fatal("a list that was told isn't new memory")
	}
}

// tellsOnce wants a call that ends with an error to be told once at most that a handle is stale.
func tellsOnce(t *testing.T, m *mem.Mem, f asking, want api.Errno) {
	t.Helper()
	refuses(t, m, f, want)
	before, times := m.Stale(), 0
	if want == api.ErrStale {
		times = 1
	}
	if does(m, f); m.Stale() != before+times {
		t.Fatalf("a handle was stale %d times, want %d", m.Stale()-before, times)
	}
}

// wrong is what stands where an age, or a word, should stand, and what memory tells of it.
type wrong struct {
	h    int
	want api.Errno
}

// wrongAges are numbers that are handles of no ages.
func wrongAges(t *testing.T, m *mem.Mem) []wrong {
	t.Helper()
	a := lays(t, m, at(t, 0), 0)
	wants(t, m, lifting(a), told{})
	node, n := makes(t, m, "a", 0)
	l := []wrong{{node, api.ErrKind}, {n.Head, api.ErrKind}, {block(t, m, "b"), api.ErrKind}, {block(t, m, rev.Tomb(0)), api.ErrKind}, {a, api.ErrStale}}
	for _, h := range stales(t, m) {
		l = append(l, wrong{h, api.ErrStale})
	}
	return l
}

// wrongWords are numbers that are handles of no words.
func wrongWords(t *testing.T, m *mem.Mem) []wrong {
	t.Helper()
	l := []wrong{{block(t, m, "b"), api.ErrKind}, {lays(t, m, at(t, 0), 0), api.ErrKind}}
	for _, h := range stales(t, m) {
		l = append(l, wrong{h, api.ErrStale})
	}
	return l
}

// 16.2, 16.3: of a node whose head is stale, or no word, or tells no age (0 is no handle of one), Newest, At and Cut end with what memory tells.
func TestWrongHead(t *testing.T) {
	m := fresh(t, 60)
	var heads []wrong
	for _, x := range wrongAges(t, m) {
		heads = append(heads, wrong{number(t, m, x.h), x.want})
	}
	for _, x := range append(heads, wrongWords(t, m)...) {
		n := Node{Low: "a", Head: x.h}
		for _, f := range []asking{newestOf(n), askingAt(n, 5), askingAt(n, math.MinInt), cutting(n, 5), cutting(n, math.MaxInt)} {
			refuses(t, m, f, x.want)
		}
	}
}

// 16.2, 16.3: a chain that tells no age somewhere, or has a prev that is stale, or no word: At and Cut, where they come to it, and Fell end with what memory tells, and nothing is changed; ahead of it At answers as ever.
func TestWrongChain(t *testing.T) {
	versions := []int{9, 7, 5, 3}
	for i := range versions {
		spoil := func(m *mem.Mem, n Node, hs []int, f func(a Age), want api.Errno) {
			t.Helper()
			f(age(t, m, hs[i]))
			wants(t, m, askingAt(n, versions[i]), told{age: age(t, m, hs[i]), ok: true})
			wants(t, m, newestOf(n), told{h: hs[0], age: age(t, m, hs[0])})
			tellsOnce(t, m, askingAt(n, versions[i]-1), want)
			tellsOnce(t, m, askingAt(n, -1), want)
			for j := range i + 1 {
				tellsOnce(t, m, felling(hs[j]), want)
				tellsOnce(t, m, cutting(n, versions[j]), want)
			}
			tellsOnce(t, m, cutting(n, -1), want)
		}
		for k := range wrongAges(t, fresh(t, 60)) {
			m := fresh(t, 60)
			n, hs := chained(t, m, versions...)
			x := wrongAges(t, m)[k]
			if x.h != 0 {
				spoil(m, n, hs, func(a Age) { m.Store(a.Prev, x.h) }, x.want)
			}
		}
		m := fresh(t, 60)
		n, hs := chained(t, m, versions...)
		spoil(m, n, hs, func(a Age) { frees(t, m, a.Prev) }, api.ErrStale)
		m = fresh(t, 60)
		n, hs = chained(t, m, versions...)
		for _, x := range wrongWords(t, m) {
			bad := block(t, m, Age{Rev: at(t, versions[i]), Prev: x.h})
			before := hs[i]
			word := n.Head
			if i > 0 {
				word = age(t, m, hs[i-1]).Prev
			}
			hs[i] = bad
			spoil(m, n, hs, func(Age) { m.Store(word, bad) }, x.want)
			hs[i] = before
		}
	}
}

// 16.3: an age, or a prev, gets stale while Fell is at it: it ends with that, and each prev that is there tells what it told.
func TestFellStaleMeanwhile(t *testing.T) {
	ended := 0
	for steps := range 24 {
		for i := range 8 {
			m := fresh(t, 20)
			n, hs := chained(t, m, 9, 7, 4, 2)
			cells := pairs(t, m, hs)
			want := image(m)
			delete(want, cells[i])
			x := machine(m, cutting(n, 9))
			for range steps {
				x.Step()
			}
			frees(t, m, cells[i])
			for !x.Step() {
			}
			out := ending(t, x)
			if out.err == api.OK {
				continue
			}
			ended++
			if !reflect.DeepEqual(out, told{err: api.ErrStale}) {
				t.Fatalf("the cell %d is freed behind %d steps: %+v", i, steps, out)
			}
			if now := image(m); !reflect.DeepEqual(now, want) {
				t.Fatalf("the cell %d is freed behind %d steps: memory is %v, want %v", i, steps, now, want)
			}
		}
	}
	if ended < 30 {
		t.Fatalf("%d ended with an error", ended)
	}
}

// The chapter's example: a chain of the versions 7, 5, 2: At of 6 is that of 5; Cut of 6 tells the two cells of 2.
func TestExample(t *testing.T) {
	m := fresh(t, 8)
	n, hs := chained(t, m, 7, 5, 2)
	wants(t, m, askingAt(n, 6), told{age: age(t, m, hs[1]), ok: true})
	wants(t, m, cutting(n, 6), told{cells: []int{hs[2], age(t, m, hs[2]).Prev}})
}
