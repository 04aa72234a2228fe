package tower

import (
	"math"
	"reflect"
	"slices"
	"testing"

	"rundle/api"
	"rundle/key"
	"rundle/mem"
	"rundle/node"
	"rundle/step"
	"rundle/tag"
)

// drawer draws numbers, the same ones each time.
type drawer uint64

func (d *drawer) below(n int) int {
	*d = *d*6364136223846793005 + 1442695040888963407
	return int(uint64(*d)>>33) % n
}

// of draws one of a list.
func (d *drawer) of(l []int) int { return l[d.below(len(l))] }

// text draws a text of so many bytes at most, of few kinds.
func (d *drawer) text(most int) string {
	l := make([]byte, d.below(most+1))
	for i := range l {
		l[i] = "\x00abc\xff"[d.below(5)]
	}
	return string(l)
}

// telling is what memory holds under each handle, told once more from the chapter's words; a word is an int.
type telling map[int]any

// word is the word of a cell.
func (l telling) word(h int) (int, api.Errno) {
	switch b := l[h].(type) {
	case nil:
		return 0, api.ErrStale
	case int:
		return b, api.OK
	}
	return 0, api.ErrKind
}

// node is the node of a handle.
func (l telling) node(h int) (node.Node, api.Errno) {
	switch b := l[h].(type) {
	case nil:
		return node.Node{}, api.ErrStale
	case node.Node:
		return b, api.OK
	}
	return node.Node{}, api.ErrKind
}

// age is the age of a handle.
func (l telling) age(h int) (node.Age, api.Errno) {
	switch b := l[h].(type) {
	case nil:
		return node.Age{}, api.ErrStale
	case node.Age:
		return b, api.OK
	}
	return node.Age{}, api.ErrKind
}

// next is what Next answers.
func (l telling) next(n node.Node, level int) told {
	if level < 0 || level >= len(n.Next) {
		return told{err: api.ErrArg}
	}
	w, err := l.word(n.Next[level])
	if w < 0 || !tag.Right(w%(1<<31)) {
		w = 0
	}
	return told{h: w % (1 << 31), err: err}
}

// from is what Search answers of one who is at a node, on a level.
func (l telling) from(h, level int, k string) told {
	n, _ := l.node(h)
	if level < 0 {
		return told{h: h, node: n}
	}
	x := l.next(n, level)
	if x.err != api.OK {
		return x
	}
	if x.h == 0 {
		return l.from(h, level-1, k)
	}
	to, err := l.node(x.h)
	switch {
	case err != api.OK:
		return told{err: err}
	case to.Low <= k:
		return l.from(x.h, level, k)
	}
	return l.from(h, level-1, k)
}

// search is what Search answers.
func (l telling) search(first int, k string) told {
	n, err := l.node(first)
	if err == api.OK && len(n.Next) == 0 {
		err = api.ErrArg
	}
	if err != api.OK {
		return told{err: err}
	}
	return l.from(first, len(n.Next)-1, k)
}

// look is all that Look may answer, in whichever order it asks: a view, or one of several errors.
func (l telling) look(h int) (View, map[api.Errno]bool) {
	errs := map[api.Errno]bool{}
	n, err := l.node(h)
	if err != api.OK {
		return View{}, map[api.Errno]bool{err: true}
	}
	v := View{Handle: h, Node: n}
	for _, c := range n.Next {
		w, err := l.word(c)
		errs[err] = true
		v.Links = append(v.Links, w)
	}
	head, err := l.word(n.Head)
	if err == api.OK {
		var a node.Age
		a, err = l.age(head)
		v.Head, v.Rev = head, a.Rev
	}
	errs[err] = true
	delete(errs, api.OK)
	if len(errs) > 0 {
		return View{}, errs
	}
	return v, nil
}

// walk is all that Walk may answer.
func (l telling) walk(first int) ([]View, map[api.Errno]bool) {
	v, errs := l.look(first)
	if errs != nil {
		return nil, errs
	}
	x := l.next(v.Node, 0)
	if x.h == 0 {
		return []View{v}, nil
	}
	behind, errs := l.walk(x.h)
	if errs != nil {
		return nil, errs
	}
	return append([]View{v}, behind...), nil
}

// draw is a memory, its second telling, and the handles that are asked for, by what they were of.
type draw struct {
	drawer
	do                        func(m *mem.Mem, f asking) told
	m                         *mem.Mem
	l                         telling
	ages, nodes, words, other []int
	ended                     map[api.Errno]int
	onward, rows              int
}

// newDraw has some ages, and some nodes, which lead nowhere yet.
func newDraw(t *testing.T, seed int) *draw {
	t.Helper()
	w := &draw{drawer: drawer(seed), do: does, m: fresh(t, 120), l: telling{}, ended: map[api.Errno]int{}}
	for _, b := range []any{"b", int64(7), key.Whole(), &node.Node{}} {
		w.other = append(w.other, block(t, w.m, b))
	}
	for i := range 4 {
		w.ages = append(w.ages, lays(t, w.m, of(t, 9-i, key.Whole()), of(t, i, key.Span{Hi: "c"})))
	}
	for range 2 + w.below(12) {
		links := make([]int, min(1, w.below(20))+w.below(4))
		h, n := makes(t, w.m, w.text(3), w.of(w.ages), links...)
		w.nodes = append(w.nodes, h)
		w.words = append(w.words, n.Next...)
	}
	w.l = image(w.m)
	for h, b := range w.l {
		if n, is := b.(node.Node); is {
			w.l[h] = plainNode(n)
		}
	}
	for range 4 * len(w.words) {
		w.link()
	}
	return w
}

// link lets a link of a drawn node lead to one of a greater Low, or seldom elsewhere.
func (w *draw) link() {
	n, err := w.l.node(w.of(w.nodes))
	if err != api.OK || len(n.Next) == 0 {
		return
	}
	to := 0
	if w.below(200) == 0 {
		to = w.of(slices.Concat(w.ages, w.other, w.words, odd))
	}
	for range w.below(6) {
		h := w.of(w.nodes)
		if b, err := w.l.node(h); to == 0 && (err != api.OK || b.Low > n.Low) {
			to = h
		}
	}
	if to = tag.Word(to, w.below(9)); w.below(200) == 0 {
		to = w.of([]int{-1, math.MinInt, 65536, 1 << 31})
	}
	w.store(w.of(n.Next), to)
}

// store lets a cell hold another word, if it holds one.
func (w *draw) store(h, n int) {
	if w.m.Store(h, n) == api.OK {
		w.l[h] = n
	}
}

// spoil lets something be otherwise that stands in the way: a head, or a cell that goes.
func (w *draw) spoil() {
	n, err := w.l.node(w.of(w.nodes))
	switch {
	case err == api.OK && w.below(8) > 0:
		w.store(n.Head, w.of(w.ages))
	case err == api.OK && w.below(3) == 0:
		w.store(n.Head, w.of(slices.Concat(w.nodes, w.other, odd)))
	case w.below(4) == 0:
		h := w.of(slices.Concat(w.nodes, w.ages, w.words, []int{n.Head}))
		if w.m.Free(h) == api.OK {
			delete(w.l, h)
		}
	}
}

// node draws a node: mostly one that memory holds.
func (w *draw) node() node.Node {
	if n, err := w.l.node(w.of(w.nodes)); err == api.OK && w.below(8) > 0 {
		return n
	}
	return node.Node{Low: "z", Head: w.of(w.words), Next: []int{w.of(slices.Concat(w.words, w.other, odd)), w.of(w.words)}}
}

// asked does a drawn call, and holds what it answers against the second telling.
func (w *draw) asked(t *testing.T) {
	t.Helper()
	h, k := w.of(w.nodes), w.text(4)
	if w.below(30) == 0 {
		h = w.of(slices.Concat(w.ages, w.words, w.other, odd))
	}
	var got, want told
	var errs map[api.Errno]bool
	switch w.below(6) {
	case 0:
		n, level := w.node(), w.below(6)-1
		got, want = w.do(w.m, following(n, level)), w.l.next(n, level)
	case 1:
		got = w.do(w.m, looking(h))
		want.view, errs = w.l.look(h)
	case 2:
		got = w.do(w.m, walking(h))
		want.row, errs = w.l.walk(h)
		w.rows += min(1, len(want.row)/3)
	default:
		got, want = w.do(w.m, searching(h, k)), w.l.search(h, k)
		if want.h != h && want.h != 0 {
			w.onward++
		}
	}
	if errs[got.err] {
		want = told{err: got.err}
	}
	if !reflect.DeepEqual(got, plain(want)) {
		t.Fatalf("of %d, %q: %+v, want %+v, %v", h, k, got, want, errs)
	}
	w.ended[got.err]++
}

// same holds all that memory holds against the second telling.
func (w *draw) same(t *testing.T) {
	t.Helper()
	if w.m.Live() != len(w.l) {
		t.Fatalf("%d cells live, want %d", w.m.Live(), len(w.l))
	}
	for h, b := range image(w.m) {
		if n, is := b.(node.Node); is {
			b = plainNode(n)
		}
		if !reflect.DeepEqual(b, w.l[h]) {
			t.Fatalf("the cell %d holds %v, want %v", h, b, w.l[h])
		}
	}
}

// next does the next drawn things.
func (w *draw) next(t *testing.T) {
	t.Helper()
	w.link()
	if w.below(5) == 0 {
		w.spoil()
	}
	for range 4 {
		w.asked(t)
	}
}

// 17.1, 17.2, rule 3: drawn calls over nodes whose links are drawn answer what the chapter's words, told once more, say, and change nothing.
func TestToldOnceMore(t *testing.T) {
	ended, onward, rows := map[api.Errno]int{}, 0, 0
	for seed := range 500 {
		w := newDraw(t, seed)
		for range 40 {
			w.next(t)
		}
		w.same(t)
		for err, n := range w.ended {
			ended[err] += n
		}
		onward, rows = onward+w.onward, rows+w.rows
	}
	for _, err := range []api.Errno{api.OK, api.ErrStale, api.ErrKind, api.ErrArg} {
		if ended[err] < 1000 {
			t.Fatalf("%d calls ended with %d: %v", ended[err], err, ended)
		}
	}
	if onward < 4000 || rows < 1000 {
		t.Fatalf("%d searches went on, %d rows had three views", onward, rows)
	}
}

// steps does a call by a machine, step by step.
func steps(m *mem.Mem, f asking) told {
	x := step.New(m, func(p *step.Port) any { return plain(f(p)) })
	for !x.Step() {
	}
	out, _ := x.Out().(told)
	return out
}

// Rule 6: what a call answers hangs on what memory holds alone: a machine's steps, one behind the other, come to what Do comes to, and ask as often.
func TestStepByStep(t *testing.T) {
	for seed := range 60 {
		a, b := newDraw(t, seed), newDraw(t, seed)
		b.do = steps
		for range 40 {
			a.next(t)
			b.next(t)
			if a.m.Count() != b.m.Count() || !reflect.DeepEqual(a.ended, b.ended) {
				t.Fatalf("%d asks, by steps %d", a.m.Count(), b.m.Count())
			}
		}
		b.same(t)
	}
}

// spanned draws a span: mostly one that stands rightly behind another one.
func (d *drawer) spanned(low, high string, last bool) key.Span {
	sp := key.Span{Lo: low, Hi: high, All: last}
	switch d.below(60) {
	case 0:
		sp.Lo = d.text(2)
	case 1:
		sp.Hi = d.text(2)
	case 2:
		sp.All = !sp.All
	}
	return sp
}

// drawnRow draws a row: mostly one that is right, or all but right.
func (d *drawer) drawnRow() []View {
	lows := []string{""}
	for range d.below(5) {
		lows = append(lows, lows[len(lows)-1]+d.text(2))
	}
	if d.below(9) == 0 {
		lows = lows[1:]
	}
	heights := []int{1 + d.below(4)}
	for range lows {
		heights = append(heights, 1+d.below(heights[0]))
	}
	var l []View
	for i, low := range lows {
		high := ""
		if i+1 < len(lows) {
			high = lows[i+1]
		}
		v := View{Handle: 20 + i, Node: node.Node{Low: low}}
		v.Rev.Span, v.Rev.Dead = d.spanned(low, high, i+1 == len(lows)), d.below(60) == 0
		height := heights[i]
		if d.below(60) == 0 {
			height = d.below(6)
		}
		for level := range height {
			to := 0
			if j := behind(heights[:len(lows)], i, level); j >= 0 {
				to = 20 + j
			}
			if d.below(60) == 0 {
				to = 20 + d.below(6)
			}
			v.Links = append(v.Links, tag.Word(to, d.below(5)))
		}
		l = append(l, v)
	}
	return l
}

// leadsTo is what To tells, told once more.
func leadsTo(l []View, i, level int) int {
	if level < 0 || i < 0 {
		return 0
	}
	for j, v := range l {
		if j > i && level < len(v.Links) {
			return v.Handle
		}
	}
	return 0
}

// isRight is what Right tells, told once more: each of its sentences by itself.
func isRight(l []View) bool {
	if len(l) == 0 || l[0].Node.Low != "" {
		return false
	}
	for i, v := range l {
		sp := v.Rev.Span
		last := i == len(l)-1
		if i > 0 && v.Node.Low != l[i-1].Rev.Span.Hi {
			return false
		}
		if v.Rev.Dead || !key.Good(sp) || key.Empty(sp) || sp.Lo != v.Node.Low || sp.All && !last || !sp.All && last {
			return false
		}
		if len(v.Links) < 1 || len(v.Links) > len(l[0].Links) {
			return false
		}
		for level := range v.Links {
			if tag.To(v.Links[level]) != leadsTo(l, i, level) {
				return false
			}
		}
	}
	return true
}

// 17.3: To and Right of drawn rows answer what the chapter's words, told once more, say.
func TestRowToldOnceMore(t *testing.T) {
	d, right := drawer(3), map[bool]int{}
	for range 60000 {
		l := d.drawnRow()
		i, level := d.below(8)-1, d.below(7)-1
		if h := To(l, i, level); h != leadsTo(l, i, level) {
			t.Fatalf("To(%+v, %d, %d): %d", l, i, level, h)
		}
		if ok := Right(l); ok != isRight(l) {
			t.Fatalf("Right(%+v): %v", l, ok)
		}
		right[Right(l)]++
	}
	if right[true] < 5000 || right[false] < 5000 {
		t.Fatalf("%v were right", right)
	}
}
