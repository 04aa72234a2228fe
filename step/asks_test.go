package step

import (
	"math"
	"testing"

	"rundle/api"
	"rundle/mem"
)

// asker is by what cells are asked: a port, and memory itself.
type asker interface {
	Alloc(b any) (int, api.Errno)
	AllocWord(n int) (int, api.Errno)
	Load(h int) (any, api.Errno)
	Word(h int) (int, api.Errno)
	Store(h, n int) api.Errno
	Swap(h, old, n int) (bool, api.Errno)
	Free(h int) api.Errno
	Retire(h, stamp int) api.Errno
	Reap(place, below int) (bool, api.Errno)
	Cells() int
}

// The nine asks.
const (
	alloc = iota
	allocWord
	load
	word
	store
	swap
	free
	retire
	reap
)

// ask is one of the nine asks, with what it hands in: a handle (or a place), numbers, a block.
type ask struct {
	which, h, x, y int
	b              any
}

// reply is what an ask was answered.
type reply struct {
	b   any
	n   int
	ok  bool
	err api.Errno
}

// asked asks.
func asked(a asker, k ask) (r reply) {
	switch k.which {
	case alloc:
		r.n, r.err = a.Alloc(k.b)
	case allocWord:
		r.n, r.err = a.AllocWord(k.x)
	case load:
		r.b, r.err = a.Load(k.h)
	case word:
		r.n, r.err = a.Word(k.h)
	case store:
		r.err = a.Store(k.h, k.x)
	case swap:
		r.ok, r.err = a.Swap(k.h, k.x, k.y)
	case free:
		r.err = a.Free(k.h)
	case retire:
		r.err = a.Retire(k.h, k.x)
	case reap:
		r.ok, r.err = a.Reap(k.h, k.x)
	}
	return r
}

// laid is memory of five cells: the word 5, a block, the word 9 that is retired with 3, one that was freed, and one that was never used; or these two hold words, too.
func laid(t *testing.T, full bool) *mem.Mem {
	t.Helper()
	m := fresh(t, 5)
	number(t, m, 5)
	m.Alloc("b")
	number(t, m, 9)
	m.Retire(3, 3)
	number(t, m, 7)
	m.Free(4)
	if full {
		number(t, m, 8)
		number(t, m, math.MinInt)
	}
	return m
}

// answered are asks of memory that is laid, and what each of them is answered, worked out by hand from chapter 12.
var answered = []struct {
	full bool
	ask  ask
	want reply
}{
	{false, ask{which: alloc, b: "new"}, reply{n: 4 + 65536}},
	{false, ask{which: alloc, b: 5}, reply{n: 4 + 65536}},
	{false, ask{which: alloc}, reply{err: api.ErrKind}},
	{true, ask{which: alloc}, reply{err: api.ErrKind}},
	{true, ask{which: alloc, b: "new"}, reply{err: api.ErrFull}},
	{false, ask{which: allocWord, x: 6}, reply{n: 4 + 65536}},
	{true, ask{which: allocWord, x: 6}, reply{err: api.ErrFull}},
	{false, ask{which: load, h: 2}, reply{b: "b"}},
	{false, ask{which: load, h: 1}, reply{err: api.ErrKind}},
	{false, ask{which: load, h: 4}, reply{err: api.ErrStale}},
	{false, ask{which: load}, reply{err: api.ErrStale}},
	{false, ask{which: word, h: 1}, reply{n: 5}},
	{false, ask{which: word, h: 3}, reply{n: 9}},
	{true, ask{which: word, h: 5}, reply{n: math.MinInt}},
	{false, ask{which: word, h: 2}, reply{err: api.ErrKind}},
	{true, ask{which: word, h: 4}, reply{err: api.ErrStale}},
	{false, ask{which: store, h: 1, x: 6}, reply{}},
	{false, ask{which: store, h: 2, x: 6}, reply{err: api.ErrKind}},
	{false, ask{which: store, h: 5, x: 6}, reply{err: api.ErrStale}},
	{false, ask{which: swap, h: 1, x: 5, y: 6}, reply{ok: true}},
	{false, ask{which: swap, h: 1, x: 5, y: 5}, reply{ok: true}},
	{false, ask{which: swap, h: 1, x: 6, y: 5}, reply{}},
	{false, ask{which: swap, h: 2, x: 5, y: 6}, reply{err: api.ErrKind}},
	{false, ask{which: swap, h: 1 + 65536, x: 5, y: 6}, reply{err: api.ErrStale}},
	{false, ask{which: free, h: 1}, reply{}},
	{false, ask{which: free, h: 2}, reply{}},
	{false, ask{which: free, h: 4}, reply{err: api.ErrStale}},
	{false, ask{which: retire, h: 1, x: 4}, reply{}},
	{false, ask{which: retire, h: 2, x: -4}, reply{}},
	{false, ask{which: retire, h: 3, x: 10}, reply{}},
	{false, ask{which: retire, h: math.MaxInt, x: 10}, reply{err: api.ErrStale}},
	{false, ask{which: reap, h: 2, x: 4}, reply{ok: true}},
	{false, ask{which: reap, h: 2, x: 3}, reply{}},
	{false, ask{which: reap, h: 0, x: 4}, reply{}},
	{false, ask{which: reap, h: 3, x: 4}, reply{}},
	{false, ask{which: reap, h: 5, x: 4}, reply{err: api.ErrArg}},
	{false, ask{which: reap, h: -1, x: 4}, reply{err: api.ErrArg}},
}

// same holds all that can be told of two memories against each other: what they hold under the handles of the first generations, what is retired, and how often they were asked.
func same(t *testing.T, got, want *mem.Mem) {
	t.Helper()
	if got.Cells() != want.Cells() || got.Count() != want.Count() || got.Live() != want.Live() || got.Stale() != want.Stale() {
		t.Fatalf("Cells, Count, Live, Stale: %d, %d, %d, %d, want %d, %d, %d, %d", got.Cells(), got.Count(), got.Live(), got.Stale(), want.Cells(), want.Count(), want.Live(), want.Stale())
	}
	for place := range want.Cells() {
		for gen := range 20 {
			sameAnswer(t, got, want, ask{which: word, h: gen*65536 + place + 1})
			sameAnswer(t, got, want, ask{which: load, h: gen*65536 + place + 1})
		}
	}
	for _, below := range []int{math.MinInt, -4, 0, 1, 2, 3, 4, 5, 6, 7, 11, math.MaxInt} {
		for place := range want.Cells() {
			sameAnswer(t, got, want, ask{which: reap, h: place, x: below})
		}
	}
	for range want.Cells() + 1 {
		sameAnswer(t, got, want, ask{which: allocWord, x: 1})
	}
}

// sameAnswer asks two memories for the same, and holds what they answer against each other.
func sameAnswer(t *testing.T, got, want *mem.Mem, k ask) {
	t.Helper()
	if a, b := asked(got, k), asked(want, k); a != b {
		t.Fatalf("%+v: %+v, want %+v", k, a, b)
	}
}

// 13.1: each ask asks memory for just that, and hands on what it answers: at once, and when it is told again in a later step.
func TestEachAsk(t *testing.T) {
	for _, c := range answered {
		for more := range 4 {
			m, twin := laid(t, c.full), laid(t, c.full)
			x := New(m, func(p *Port) any {
				r := asked(p, c.ask)
				for range more {
					p.Word(1)
				}
				return r
			})
			if r := asked(twin, c.ask); r != c.want {
				t.Fatalf("memory: %+v: %+v, want %+v", c.ask, r, c.want)
			}
			for range more {
				goes(t, m, x)
				twin.Word(1)
			}
			ends(t, m, x, c.want)
			same(t, m, twin)
		}
	}
}

// 13.1: each ask may be the second one, which isn't done ahead of its step.
func TestEachAskSecond(t *testing.T) {
	for _, c := range answered {
		m, twin := laid(t, c.full), laid(t, c.full)
		x := New(m, func(p *Port) any {
			p.Load(2)
			return asked(p, c.ask)
		})
		goes(t, m, x)
		twin.Load(2)
		if m.Live() != twin.Live() || m.Stale() != twin.Stale() {
			t.Fatalf("%+v: it was done ahead of its step", c.ask)
		}
		ends(t, m, x, c.want)
		asked(twin, c.ask)
		same(t, m, twin)
	}
}

// 13.2: by Do's port each ask asks memory for just that, too, and hands on what it answers.
func TestEachAskAtOnce(t *testing.T) {
	for _, c := range answered {
		m, twin := laid(t, c.full), laid(t, c.full)
		got := Do(m, func(p *Port) any {
			r := asked(p, c.ask)
			p.Word(1)
			return r
		})
		if got != any(c.want) {
			t.Fatalf("%+v: %+v, want %+v", c.ask, got, c.want)
		}
		asked(twin, c.ask)
		twin.Word(1)
		same(t, m, twin)
	}
}
