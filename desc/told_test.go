package desc

import (
	"math"
	"slices"
	"testing"

	"rundle/api"
	"rundle/mem"
	"rundle/step"
)

// drawer draws numbers, the same ones each time.
type drawer uint64

func (d *drawer) below(n int) int {
	*d = *d*6364136223846793005 + 1442695040888963407
	return int(uint64(*d)>>33) % n
}

// What a cell holds in the second telling.
const (
	aWord = iota
	aText
	aDesc
)

// kept is what a cell holds, told once more from the chapter's words.
type kept struct {
	kind    int
	n       int
	d       Desc
	retired bool
	stamp   int
}

// telling is a memory, told once more: what is held under which handle.
type telling struct {
	cells int
	held  map[int]*kept
}

// reply is what a call answers, whichever it is.
type reply struct {
	h, n int
	d    Desc
	is   bool
	err  api.Errno
}

// word is the word of a cell.
func (l *telling) word(h int) (*kept, api.Errno) {
	if k := l.held[h]; k == nil {
		return &kept{}, api.ErrStale
	} else if k.kind != aWord {
		return &kept{}, api.ErrKind
	} else {
		return k, api.OK
	}
}

// desc is the descriptor of a cell.
func (l *telling) desc(h int) (Desc, api.Errno) {
	if k := l.held[h]; k == nil {
		return Desc{}, api.ErrStale
	} else if k.kind != aDesc {
		return Desc{}, api.ErrKind
	} else {
		return k.d, api.OK
	}
}

// latest is what Latest answers, and how often it asks.
func (l *telling) latest(top int) (reply, int) {
	at, err := l.word(top)
	if err != api.OK {
		return reply{err: err}, 1
	}
	d, err := l.desc(at.n)
	if err != api.OK {
		return reply{err: err}, 2
	}
	status, err := l.word(d.Status)
	if err != api.OK {
		return reply{err: err}, 3
	}
	return reply{h: at.n, d: d, is: status.n == 1}, 3
}

// version is what Version answers, and how often it asks.
func (l *telling) version(top int) (reply, int) {
	r, asks := l.latest(top)
	if r.is {
		return reply{n: r.d.Version}, asks
	}
	return reply{n: r.d.Before, err: r.err}, asks
}

// swap swaps a word.
func (l *telling) swap(h, old, n int) (bool, api.Errno) {
	at, err := l.word(h)
	if err != api.OK || at.n != old {
		return false, err
	}
	at.n = n
	return true, api.OK
}

// help is what Help answers, and how often it asks.
func (l *telling) help(d Desc) (reply, int) {
	for i, s := range d.Swaps {
		if _, err := l.swap(s.Cell, s.Old, s.New); err != api.OK {
			return reply{err: err}, i + 1
		}
	}
	_, err := l.swap(d.Status, 0, 1)
	return reply{err: err}, len(d.Swaps) + 1
}

// both does the same with both cells of a descriptor.
func (l *telling) both(h int, f func(h int)) reply {
	d, err := l.desc(h)
	if err != api.OK {
		return reply{err: err}
	}
	if l.held[d.Status] == nil {
		return reply{err: api.ErrStale}
	}
	f(d.Status)
	f(h)
	return reply{}
}

// undo frees both cells of a descriptor.
func (l *telling) undo(h int) reply {
	return l.both(h, func(h int) { delete(l.held, h) })
}

// drop retires both cells of a descriptor.
func (l *telling) drop(h, stamp int) reply {
	return l.both(h, func(h int) {
		if k := l.held[h]; !k.retired || k.stamp < stamp {
			k.retired, k.stamp = true, stamp
		}
	})
}

// draw is a memory, its second telling, and all handles that were ever answered.
type draw struct {
	drawer
	m       *mem.Mem
	l       *telling
	handles []int
	next    int
}

// handle draws a handle: mostly one that is held.
func (w *draw) handle(kind int) int {
	for range w.below(12) {
		h := w.handles[w.below(len(w.handles))]
		if k := w.l.held[h]; k != nil && k.kind == kind {
			return h
		}
	}
	return w.handles[w.below(len(w.handles))]
}

// top draws a word that is the handle of a descriptor, mostly.
func (w *draw) top() int {
	for range w.below(20) {
		h := w.handle(aWord)
		if k := w.l.held[h]; k != nil && k.kind == aWord && w.l.held[k.n] != nil {
			return h
		}
	}
	return w.handle(aWord)
}

// swaps draws swaps: mostly of what cells hold.
func (w *draw) swaps() []Swap {
	var swaps []Swap
	for range w.below(4) {
		cell, old := w.handle(aWord), w.below(5)
		if k := w.l.held[cell]; k != nil && w.below(4) > 0 {
			old = k.n
		}
		w.next++
		swaps = append(swaps, Swap{cell, old, w.next})
	}
	return swaps
}

// took takes in that a call let this handle hold something.
func (w *draw) took(t *testing.T, h int, k kept) {
	t.Helper()
	if h == 0 || w.l.held[h] != nil {
		t.Fatalf("handle %d was answered while it held something", h)
	}
	w.l.held[h] = &k
	w.handles = append(w.handles, h)
}

// full tells whether there is no room for so many cells.
func (w *draw) full(n int) bool { return len(w.l.held)+n > w.l.cells }

// answered holds what a call answered against what it should, and how often it asked, if that is told (it isn't below 0).
func answered(t *testing.T, name string, got, want reply, n, asks int) {
	t.Helper()
	if got.h != want.h || got.n != want.n || !same(got.d, want.d) || got.is != want.is || got.err != want.err || asks >= 0 && n != asks {
		t.Fatalf("%s: %+v, %d asks, want %+v, %d asks", name, got, n, want, asks)
	}
}

// made does Make, or Init, which let new cells hold something.
func (w *draw) made(t *testing.T, first bool) {
	t.Helper()
	var r reply
	d, version, before, swaps := Desc{}, w.below(9), w.below(9), w.swaps()
	cells, status := 3, 1
	if !first {
		cells, status, d = 2, 0, Desc{Version: version, Before: before, Swaps: swaps}
	}
	n := call(w.m, func(p *step.Port) {
		if first {
			r.h, r.err = Init(p)
		} else {
			r.h, r.err = Make(p, version, before, swaps)
		}
	})
	if w.full(cells) {
		answered(t, "made", r, reply{err: api.ErrFull}, 0, -1)
		return
	}
	answered(t, "made", r, reply{h: r.h}, n, cells)
	h := r.h
	if first {
		h, _ = w.m.Word(r.h)
		w.took(t, r.h, kept{n: h})
	}
	d.Status = loaded(t, w.m, h).Status
	w.took(t, h, kept{kind: aDesc, d: d})
	w.took(t, d.Status, kept{n: status})
}

// asked does a call that lets no new cell hold something.
func (w *draw) asked(t *testing.T) {
	t.Helper()
	var r, want reply
	asks := -1
	top, h, old, stamp := w.top(), w.handle(aDesc), w.handle(aDesc), w.below(6)
	if k := w.l.held[top]; k != nil && w.below(3) > 0 {
		old = k.n
	}
	d := Desc{Status: w.handle(aWord), Swaps: w.swaps()}
	if k := w.l.held[h]; k != nil && w.below(5) > 0 {
		d = k.d
	}
	which := w.below(16)
	n := call(w.m, func(p *step.Port) {
		switch which {
		case 0, 1:
			r.d, r.err = Load(p, h)
		case 2, 3, 4:
			r.h, r.d, r.is, r.err = Latest(p, top)
		case 5, 6, 7:
			r.n, r.err = Version(p, top)
		case 8, 9, 10:
			r.is, r.err = Publish(p, top, old, h)
		case 11, 12, 13:
			r.err = Help(p, d)
		case 14:
			r.err = Undo(p, h)
		case 15:
			r.err = Drop(p, h, stamp)
		}
	})
	switch which {
	case 0, 1:
		want.d, want.err = w.l.desc(h)
		asks = 1
	case 2, 3, 4:
		want, asks = w.l.latest(top)
	case 5, 6, 7:
		want, asks = w.l.version(top)
	case 8, 9, 10:
		want.is, want.err = w.l.swap(top, old, h)
		asks = 1
	case 11, 12, 13:
		want, asks = w.l.help(d)
	case 14:
		want = w.l.undo(h)
	case 15:
		want = w.l.drop(h, stamp)
	}
	answered(t, []string{"Load", "Load", "Latest", "Latest", "Latest", "Version", "Version", "Version", "Publish", "Publish", "Publish", "Help", "Help", "Help", "Undo", "Drop"}[which], r, want, n, asks)
}

// other does with memory what no descriptor does: it frees, reaps, holds other words and texts.
func (w *draw) other(t *testing.T) {
	t.Helper()
	h, below := w.handle(w.below(3)), w.below(6)
	switch w.below(6) {
	case 0, 1:
		if n, err := w.m.AllocWord(5); err == api.OK {
			w.took(t, n, kept{n: 5})
		}
	case 2:
		if n, err := w.m.Alloc("b"); err == api.OK {
			w.took(t, n, kept{kind: aText})
		}
	case 3:
		w.m.Free(h)
		delete(w.l.held, h)
	case 4:
		for at, k := range w.l.held {
			if k.retired && k.stamp < below {
				delete(w.l.held, at)
			}
		}
		reap(w.m, below)
	case 5:
		if k, err := w.l.word(h); err == api.OK {
			k.n = w.below(3)
			w.m.Store(h, k.n)
		}
	}
}

// same holds all that memory holds against the second telling.
func (w *draw) same(t *testing.T) {
	t.Helper()
	if w.m.Live() != len(w.l.held) {
		t.Fatalf("%d cells live, want %d", w.m.Live(), len(w.l.held))
	}
	for h, k := range w.l.held {
		switch k.kind {
		case aWord:
			holds(t, w.m, h, k.n)
		case aDesc:
			if d := loaded(t, w.m, h); !same(d, k.d) {
				t.Fatalf("the descriptor %d: %v, want %v", h, d, k.d)
			}
		case aText:
			if b, err := w.m.Load(h); b != any("b") || err != api.OK {
				t.Fatalf("the text %d: %v, %d", h, b, err)
			}
		}
	}
}

// 14.1 to 14.4: drawn calls, one behind the other, answer what the chapter's words, told once more, say, and ask as often; and memory holds what they say.
func TestToldOnceMore(t *testing.T) {
	for seed := range 300 {
		cells := 3 + seed%40
		w := &draw{drawer: drawer(seed), m: fresh(t, cells), l: &telling{cells, map[int]*kept{}}, handles: slices.Clone([]int{0, -1, 7 + 65536*9, math.MaxInt}), next: 100}
		for range 400 {
			switch w.below(8) {
			case 0:
				w.made(t, w.below(3) == 0)
			case 1:
				w.other(t)
			default:
				w.asked(t)
			}
			w.same(t)
		}
	}
}
