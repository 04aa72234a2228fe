package mem

import (
	"math"
	"testing"

	"rundle/api"
)

// thing is what is held, in the chapter's words told once more: a word or a block, and the stamps with which it was retired.
type thing struct {
	isWord bool
	n      int
	b      any
	stamps []int
}

// copybook is memory, told once more: what is held under each handle, how often each place was freed, and the counts.
type copybook struct {
	freed              []int
	held               map[int]*thing
	count, live, stale int
}

func newCopybook(cells int) *copybook {
	return &copybook{freed: make([]int, cells), held: map[int]*thing{}}
}

// handle is what a place's handle is now.
func (c *copybook) handle(place int) int { return c.freed[place]*65536 + place + 1 }

func (c *copybook) alloc(x thing) (int, api.Errno) {
	c.count++
	if !x.isWord && x.b == nil {
		return 0, api.ErrKind
	}
	for place, often := range c.freed {
		if c.held[c.handle(place)] == nil && often < 16384 {
			c.held[c.handle(place)] = &x
			c.live++
			return c.handle(place), api.OK
		}
	}
	return 0, api.ErrFull
}

func (c *copybook) free(place int) {
	delete(c.held, c.handle(place))
	c.freed[place]++
	c.live--
}

// find is what is held under a handle; nil: it is stale.
func (c *copybook) find(h int) *thing {
	c.count++
	x := c.held[h]
	if x == nil {
		c.stale++
	}
	return x
}

// answer is what a call answers.
type answer struct {
	n   int
	b   any
	ok  bool
	err api.Errno
}

// ask is a call: which of the nine it is, and its arguments.
type ask struct {
	which   int
	h, x, y int
	b       any
}

func (c *copybook) do(a ask) answer {
	switch a.which {
	case 0:
		n, err := c.alloc(thing{b: a.b})
		return answer{n: n, err: err}
	case 1:
		n, err := c.alloc(thing{isWord: true, n: a.x})
		return answer{n: n, err: err}
	case 8:
		return c.reap(a)
	}
	x := c.find(a.h)
	if x == nil {
		return answer{err: api.ErrStale}
	}
	switch {
	case a.which == 6:
		c.free((a.h - 1) % 65536)
		return answer{}
	case a.which == 7:
		x.stamps = append(x.stamps, a.x)
		return answer{}
	case x.isWord == (a.which == 2):
		return answer{err: api.ErrKind}
	case a.which == 2:
		return answer{b: x.b}
	case a.which == 3:
		return answer{n: x.n}
	case a.which == 4:
		x.n = a.x
		return answer{}
	case x.n == a.x:
		x.n = a.y
		return answer{ok: true}
	}
	return answer{}
}

// reap holds all stamps against the bound, one by one: what was retired with one that isn't less stays.
func (c *copybook) reap(a ask) answer {
	c.count++
	if a.h < 0 || a.h >= len(c.freed) {
		return answer{err: api.ErrArg}
	}
	x := c.held[c.handle(a.h)]
	if x == nil || len(x.stamps) == 0 {
		return answer{}
	}
	for _, stamp := range x.stamps {
		if stamp >= a.x {
			return answer{}
		}
	}
	c.free(a.h)
	return answer{ok: true}
}

// asked is what memory answers to a call.
func asked(m *Mem, a ask) answer {
	var got answer
	switch a.which {
	case 0:
		got.n, got.err = m.Alloc(a.b)
	case 1:
		got.n, got.err = m.AllocWord(a.x)
	case 2:
		got.b, got.err = m.Load(a.h)
	case 3:
		got.n, got.err = m.Word(a.h)
	case 4:
		got.err = m.Store(a.h, a.x)
	case 5:
		got.ok, got.err = m.Swap(a.h, a.x, a.y)
	case 6:
		got.err = m.Free(a.h)
	case 7:
		got.err = m.Retire(a.h, a.x)
	case 8:
		got.ok, got.err = m.Reap(a.h, a.x)
	}
	return got
}

// drawer draws numbers, the same ones each time.
type drawer uint64

func (d *drawer) below(n int) int {
	*d = *d*6364136223846793005 + 1442695040888963407
	return int(uint64(*d)>>33) % n
}

// pick draws one of a few.
func pick[T any](d *drawer, few []T) T { return few[d.below(len(few))] }

// draw draws a call: of handles that were told, of those round about them, and of none.
func (d *drawer) draw(cells int, told []int) ask {
	few := []int{math.MinInt, math.MinInt + 1, -2, -1, 0, 1, 2, 3, 4, 5, 6, 1 << 40, math.MaxInt - 1, math.MaxInt}
	a := ask{which: d.below(9), x: pick(d, few), y: pick(d, few), b: pick(d, []any{nil, 0, 1, 2, "", "a", &few, 1.5, api.OK})}
	switch {
	case a.which == 8:
		a.h = d.below(cells+2) - 1
	case d.below(4) == 0:
		a.h = pick(d, told) + pick(d, []int{-65536, 65536, 1, -1, 16383 * 65536})
	case d.below(20) == 0:
		a.h = pick(d, few)
	case d.below(2) == 0:
		a.h = told[max(0, len(told)-1-d.below(cells+1))]
	default:
		a.h = pick(d, told)
	}
	return a
}

// 12.1 to 12.5: whatever is asked in whatever order, memory answers as the chapter's words tell it, and so do the counts.
func TestByWords(t *testing.T) {
	for _, cells := range []int{1, 2, 3, 5, 8, 63, 64, 65, 66, 130} {
		d := drawer(cells)
		m, c := fresh(t, cells), newCopybook(cells)
		told := []int{0}
		for i := range 20000 {
			a := d.draw(cells, told)
			if i%1000 < 2*cells && i%2 == 0 {
				a.which = d.below(2)
			}
			got, want := asked(m, a), c.do(a)
			if got != want {
				t.Fatalf("%d cells, call %d, %+v: %+v, want %+v", cells, i, a, got, want)
			}
			if m.Cells() != cells || m.Count() != c.count || m.Live() != c.live || m.Stale() != c.stale {
				t.Fatalf("%d cells, call %d, %+v: %d, %d, %d, %d, want %d, %d, %d", cells, i, a, m.Cells(), m.Count(), m.Live(), m.Stale(), c.count, c.live, c.stale)
			}
			if a.which < 2 && got.err == api.OK {
				told = append(told, got.n)
			}
		}
		wantHeld(t, m, c, told)
	}
}

// wantHeld holds what is under all handles that were told against what ought to be.
func wantHeld(t *testing.T, m *Mem, c *copybook, told []int) {
	t.Helper()
	for _, h := range told {
		for _, which := range []int{2, 3} {
			a := ask{which: which, h: h}
			if got, want := asked(m, a), c.do(a); got != want {
				t.Fatalf("%+v: %+v, want %+v", a, got, want)
			}
		}
	}
}

// Rule 3: a refused call changes nothing but the counts: what is asked behind it is answered as if it hadn't been.
func TestRefused(t *testing.T) {
	for _, cells := range []int{1, 3, 66} {
		d := drawer(100 + cells)
		m, c := fresh(t, cells), newCopybook(cells)
		told := []int{0}
		for i := range 5000 {
			a := d.draw(cells, told)
			refused := asked(m, a)
			if refused.err == api.OK {
				if want := c.do(a); refused != want {
					t.Fatalf("%d cells, call %d, %+v: %+v, want %+v", cells, i, a, refused, want)
				}
				if a.which < 2 {
					told = append(told, refused.n)
				}
			}
			if m.Live() != c.live {
				t.Fatalf("%d cells, call %d, %+v: Live %d, want %d", cells, i, a, m.Live(), c.live)
			}
		}
		wantHeld(t, m, c, told)
	}
}
