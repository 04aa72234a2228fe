package node

import (
	"math"
	"reflect"
	"slices"
	"testing"

	"rundle/api"
	"rundle/key"
	"rundle/mem"
	"rundle/rev"
)

// drawer draws numbers, the same ones each time.
type drawer uint64

func (d *drawer) below(n int) int {
	*d = *d*6364136223846793005 + 1442695040888963407
	return int(uint64(*d)>>33) % n
}

// of draws one of a list.
func (d *drawer) of(l []int) int { return l[d.below(len(l))] }

// telling is memory, told once more from the chapter's words: what is held under which handle; a word is an int.
type telling struct {
	cells int
	held  map[int]any
}

// word is the word of a cell.
func (l *telling) word(h int) (int, api.Errno) {
	switch b := l.held[h].(type) {
	case nil:
		return 0, api.ErrStale
	case int:
		return b, api.OK
	}
	return 0, api.ErrKind
}

// age is the age of a handle.
func (l *telling) age(h int) (Age, api.Errno) {
	switch b := l.held[h].(type) {
	case nil:
		return Age{}, api.ErrStale
	case Age:
		return b, api.OK
	}
	return Age{}, api.ErrKind
}

// node is the node of a handle.
func (l *telling) node(h int) (Node, api.Errno) {
	switch b := l.held[h].(type) {
	case nil:
		return Node{}, api.ErrStale
	case Node:
		return b, api.OK
	}
	return Node{}, api.ErrKind
}

// drop frees cells, if all of them are there.
func (l *telling) drop(cells ...int) told {
	for _, h := range cells {
		if l.held[h] == nil {
			return told{err: api.ErrStale}
		}
	}
	for _, h := range cells {
		delete(l.held, h)
	}
	return told{}
}

// lift is what Lift answers.
func (l *telling) lift(h int) told {
	a, err := l.age(h)
	if err != api.OK {
		return told{err: err}
	}
	return l.drop(a.Prev, h)
}

// undo is what Undo answers.
func (l *telling) undo(h int) told {
	n, err := l.node(h)
	if err != api.OK {
		return told{err: err}
	}
	return l.drop(append([]int{h, n.Head}, n.Next...)...)
}

// ages are the handles of a chain, from an age on, and the error with which it ends, if it does.
func (l *telling) ages(h int) ([]int, api.Errno) {
	var hs []int
	for {
		a, err := l.age(h)
		if err != api.OK {
			return hs, err
		}
		hs = append(hs, h)
		if h, err = l.word(a.Prev); err != api.OK || h == 0 {
			return hs, err
		}
	}
}

// newest is what Newest answers.
func (l *telling) newest(n Node) told {
	h, err := l.word(n.Head)
	if err != api.OK {
		return told{err: err}
	}
	a, err := l.age(h)
	if err != api.OK {
		return told{err: err}
	}
	return told{h: h, age: a}
}

// at is what At answers, and the handle of that age.
func (l *telling) at(n Node, version int) (told, int) {
	h, err := l.word(n.Head)
	if err != api.OK {
		return told{err: err}, 0
	}
	hs, err := l.ages(h)
	for _, h := range hs {
		if a, _ := l.age(h); a.Rev.Version <= version {
			return told{age: a, ok: true}, h
		}
	}
	return told{err: err}, 0
}

// fell is what Fell answers.
func (l *telling) fell(h int) told {
	if h == 0 {
		return told{}
	}
	hs, err := l.ages(h)
	if err != api.OK {
		return told{err: err}
	}
	var cells []int
	for _, h := range hs {
		a, _ := l.age(h)
		cells = append(cells, h, a.Prev)
		l.held[a.Prev] = 0
	}
	return told{cells: cells}
}

// cut is what Cut answers.
func (l *telling) cut(n Node, least int) told {
	x, h := l.at(n, least)
	if !x.ok {
		return told{err: x.err}
	}
	x = l.fell(h)
	if x.err != api.OK {
		return x
	}
	return told{cells: x.cells[2:]}
}

// draw is a memory, its second telling, and all handles that were ever told, by what they were of.
type draw struct {
	drawer
	do                 func(m *mem.Mem, f asking) told
	m                  *mem.Mem
	l                  *telling
	ages, nodes, words []int
	ended              map[api.Errno]int
	felled             int
}

// newDraw has so many cells, a few of them of another kind.
func newDraw(t *testing.T, seed, cells int) *draw {
	t.Helper()
	w := &draw{drawer: drawer(seed), do: does, m: fresh(t, cells), l: &telling{cells: cells, held: map[int]any{}}, ended: map[api.Errno]int{}}
	for _, b := range []any{"b", rev.Tomb(3)} {
		h := block(t, w.m, b)
		w.l.held[h] = b
		w.ages, w.nodes, w.words = append(w.ages, h), append(w.nodes, h), append(w.words, h)
	}
	return w
}

// handle draws a handle: mostly one of these that was told lately, seldom one of something else, or of nothing.
func (w *draw) handle(l []int) int {
	switch w.below(16) {
	case 0:
		return w.of(odd)
	case 1:
		return w.of(slices.Concat(w.ages, w.nodes, w.words))
	case 2, 3, 4:
		return w.of(l)
	}
	return l[max(0, len(l)-1-w.below(6))]
}

// version draws a version.
func (w *draw) version() int {
	if w.below(20) == 0 {
		return w.of([]int{math.MinInt, math.MaxInt, api.MaxVersion, -1, 0})
	}
	return w.below(12)
}

// rev draws a revision.
func (w *draw) rev(t *testing.T) rev.Rev {
	t.Helper()
	if w.below(5) == 0 {
		return rev.Tomb(w.version())
	}
	var l []api.Entry
	for _, k := range []string{"a", "b", "c"} {
		if w.below(2) == 0 {
			l = append(l, api.Entry{Key: k, Value: k + k})
		}
	}
	r, err := rev.New(w.version(), w.below(99), key.Whole(), l)
	if err != api.OK {
		t.Fatalf("a revision: %d", err)
	}
	return r
}

// node draws a node: mostly one that memory holds, or held.
func (w *draw) node() Node {
	h := w.handle(w.nodes)
	if n, err := w.l.node(h); err == api.OK {
		return n
	}
	return Node{Low: "z", Head: w.handle(w.words), Next: []int{w.handle(w.words)}}
}

// lay lays a drawn age, over what a node's head tells, or over any other one; the node's head tells it then.
func (w *draw) lay(t *testing.T) {
	t.Helper()
	r, n, before := w.rev(t), w.node(), 0
	if w.below(3) == 0 {
		before = w.handle(w.ages)
	}
	head, err := w.l.word(n.Head)
	over := err == api.OK && w.below(4) > 0
	if over {
		before = head
	}
	x := w.do(w.m, laying(r, before))
	if w.full(t, x, 2) {
		return
	}
	b, _ := w.m.Load(x.h)
	a, ok := b.(Age)
	if !ok || !reflect.DeepEqual(a.Rev, r) {
		t.Fatalf("Lay laid %v", b)
	}
	w.comes(t, x.h, a)
	w.comes(t, a.Prev, before)
	w.ages, w.words = append(w.ages, x.h), append(w.words, a.Prev)
	if over {
		w.m.Store(n.Head, x.h)
		w.l.held[n.Head] = x.h
	}
}

// full wants ErrFull, if there aren't so many cells free, and else no error; whether it was that.
func (w *draw) full(t *testing.T, x told, needs int) bool {
	t.Helper()
	full := w.l.cells-len(w.l.held) < needs
	if full && !reflect.DeepEqual(x, told{err: api.ErrFull}) || !full && !reflect.DeepEqual(x, told{h: x.h}) {
		t.Fatalf("%+v, %d of %d cells weren't free", x, len(w.l.held), w.l.cells)
	}
	w.ended[x.err]++
	return full
}

// comes takes in what a new cell holds.
func (w *draw) comes(t *testing.T, h int, b any) {
	t.Helper()
	if w.l.held[h] != nil {
		t.Fatalf("the cell %d is told twice", h)
	}
	w.l.held[h] = b
}

// make makes a drawn node, whose head tells a drawn age.
func (w *draw) make(t *testing.T) {
	t.Helper()
	head, low := w.handle(w.ages), []string{"", "c", "f"}[w.below(3)]
	for range 6 {
		if _, err := w.l.age(head); err == api.OK {
			break
		}
		head = w.handle(w.ages)
	}
	links := make([]int, w.below(4))
	for i := range links {
		links[i] = w.handle(w.nodes)
	}
	x := w.do(w.m, making(low, head, links...))
	if w.full(t, x, 2+len(links)) {
		return
	}
	b, _ := w.m.Load(x.h)
	n, ok := b.(Node)
	if !ok || n.Low != low || len(n.Next) != len(links) {
		t.Fatalf("Make made %v", b)
	}
	w.comes(t, x.h, n)
	w.comes(t, n.Head, head)
	for i, h := range n.Next {
		w.comes(t, h, links[i])
	}
	w.nodes, w.words = append(w.nodes, x.h), append(w.words, n.Head)
}

// asked does a drawn call, and holds what it answers against the second telling.
func (w *draw) asked(t *testing.T) {
	t.Helper()
	a, h, n, v := w.handle(w.ages), w.handle(w.nodes), w.node(), w.version()
	var f asking
	var want told
	which := w.below(20)
	switch which {
	case 0:
		f = taking(a)
		want.age, want.err = w.l.age(a)
	case 1:
		f = loading(h)
		want.node, want.err = w.l.node(h)
	case 2:
		f, want = lifting(a), w.l.lift(a)
	case 3:
		f, want = undoing(h), w.l.undo(h)
	case 4:
		f, want = newestOf(n), w.l.newest(n)
	case 5, 6, 7, 8:
		f = askingAt(n, v)
		want, _ = w.l.at(n, v)
	case 9:
		f, want = felling(a), w.l.fell(a)
	default:
		f, want = cutting(n, v), w.l.cut(n, v)
	}
	if got := w.do(w.m, f); !reflect.DeepEqual(got, plain(want)) {
		t.Fatalf("call %d of %d, %d, %+v, %d: %+v, want %+v", which, a, h, n, v, got, want)
	}
	w.ended[want.err]++
	w.felled += len(want.cells) / 2
	if w.below(4) > 0 {
		w.giveBack(want.cells)
	}
}

// giveBack frees what was told, as far as it is there.
func (w *draw) giveBack(cells []int) {
	for _, h := range cells {
		w.m.Free(h)
		delete(w.l.held, h)
	}
}

// spoil frees a cell, or lets it hold a word that leads to no age; no chain comes back to where it was.
func (w *draw) spoil() {
	h := w.handle(slices.Concat(w.ages, w.words, w.words))
	if w.l.held[h] == nil {
		return
	}
	if _, err := w.l.word(h); err == api.OK && w.below(3) > 0 {
		n := w.of(append(w.words, odd...))
		w.m.Store(h, n)
		w.l.held[h] = n
		return
	}
	w.giveBack([]int{h})
}

// same holds all that memory holds against the second telling.
func (w *draw) same(t *testing.T) {
	t.Helper()
	if w.m.Live() != len(w.l.held) {
		t.Fatalf("%d cells live, want %d", w.m.Live(), len(w.l.held))
	}
	for h, b := range w.l.held {
		if n, is := b.(int); is {
			holds(t, w.m, h, n)
		} else if now, err := w.m.Load(h); err != api.OK || !reflect.DeepEqual(now, b) {
			t.Fatalf("the block of %d: %v, %d, want %v", h, now, err, b)
		}
	}
}

// next does the next drawn thing.
func (w *draw) next(t *testing.T) {
	t.Helper()
	switch k := w.below(60); {
	case k < 24:
		w.lay(t)
	case k < 28:
		w.make(t)
	case k < 29:
		w.spoil()
	default:
		w.asked(t)
	}
}

// 16.1 to 16.3, rule 3: drawn calls, one behind the other, answer what the chapter's words, told once more, say, and leave memory as they say; those that end with an error change nothing.
func TestToldOnceMore(t *testing.T) {
	ended, felled := map[api.Errno]int{}, 0
	for seed := range 400 {
		w := newDraw(t, seed, []int{6, 15, 50, 200}[seed%4])
		for range 150 {
			w.next(t)
			w.same(t)
		}
		for err, n := range w.ended {
			ended[err] += n
		}
		felled += w.felled
	}
	for _, err := range []api.Errno{api.OK, api.ErrFull, api.ErrStale, api.ErrKind} {
		if ended[err] < 1000 {
			t.Fatalf("%d calls ended with %d", ended[err], err)
		}
	}
	if felled < 500 {
		t.Fatalf("%d ages were felled", felled)
	}
}

// steps does a call by a machine, step by step.
func steps(m *mem.Mem, f asking) told {
	x := machine(m, f)
	for !x.Step() {
	}
	out, _ := x.Out().(told)
	return out
}

// Rule 6: what a call answers hangs on what memory holds alone: a machine's steps, one behind the other, come to what Do comes to, and ask as often.
func TestStepByStep(t *testing.T) {
	for seed := range 60 {
		a, b := newDraw(t, seed, 40), newDraw(t, seed, 40)
		b.do = steps
		for range 150 {
			a.next(t)
			b.next(t)
			if a.m.Count() != b.m.Count() || !reflect.DeepEqual(a.l, b.l) {
				t.Fatalf("%d asks, by steps %d", a.m.Count(), b.m.Count())
			}
		}
		a.same(t)
		b.same(t)
	}
}

// Rule 1: a call ends, and asks no more often than there are ages and links, by a few times.
func TestAsks(t *testing.T) {
	for _, many := range []int{1, 2, 10, 300} {
		m := fresh(t, 1000)
		versions := linked(many)
		n, hs := chained(t, m, versions...)
		h, _ := makes(t, m, "a", hs[0], linked(20)...)
		for _, f := range []asking{taking(hs[0]), loading(h), newestOf(n), askingAt(n, math.MinInt), cutting(n, versions[many/2]), felling(hs[0]), undoing(h), lifting(hs[0])} {
			before := m.Count()
			steps(m, f)
			if asks := m.Count() - before; asks > 10+3*many+3*20 {
				t.Fatalf("%d asks of a chain of %d ages", asks, many)
			}
		}
	}
}
