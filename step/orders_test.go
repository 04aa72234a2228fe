package step

import (
	"strconv"
	"strings"
	"testing"

	"rundle/api"
	"rundle/mem"
)

// drawer draws numbers, the same ones each time.
type drawer uint64

func (d *drawer) below(n int) int {
	*d = *d*6364136223846793005 + 1442695040888963407
	return int(uint64(*d)>>33) % n
}

// walk is a drawn function, done an ask at a time: what it asks next hangs on all answers that it had, and so does when it ends.
type walk struct {
	d       drawer
	handles []int
	left    int
	noted   int
	log     strings.Builder
}

// newWalk is a walk of so many asks, or somewhat fewer or more, that knows some handles at first.
func newWalk(seed, asks int, handles []int) *walk {
	w := &walk{d: drawer(seed), handles: append([]int{0}, handles...), left: asks}
	w.note()
	return w
}

// note notes none, one or two numbers.
func (w *walk) note() {
	for range w.d.below(3) {
		w.noted = w.d.below(1000) - 500
	}
}

// draw draws what is asked next.
func (w *walk) draw(cells int) ask {
	k := ask{which: w.d.below(9), h: w.handles[w.d.below(len(w.handles))], x: w.d.below(4), y: w.d.below(4)}
	if k.which == reap {
		k.h = w.d.below(cells+2) - 1
	}
	if w.d.below(8) > 0 {
		k.b = "b" + strconv.Itoa(w.d.below(9))
	}
	return k
}

// one asks once, and lets the answer say what comes then.
func (w *walk) one(a asker) {
	k := w.draw(a.Cells())
	r := asked(a, k)
	text, _ := r.b.(string)
	for _, n := range []int{k.which, r.n, int(r.err), len(text)} {
		w.log.WriteString(" " + strconv.Itoa(n))
		w.d += drawer(n)
		w.d.below(1)
	}
	w.log.WriteString(text)
	if r.ok {
		w.log.WriteString(" ok")
		w.d.below(1)
	}
	if k.which == alloc || k.which == allocWord {
		w.handles = append(w.handles, r.n)
	}
	if k.which == word && w.d.below(3) == 0 {
		w.handles = append(w.handles, r.n)
	}
	w.left--
	if w.left > 0 && r.err == api.ErrStale && w.d.below(4) == 0 {
		w.left += w.d.below(5) - 2
	}
	w.note()
}

// out is what a walk answers at its end: all that it was told.
func (w *walk) out() string { return w.log.String() }

// by is the walk as a function that asks by a port.
func by(seed, asks int, handles []int) func(p *Port) any {
	return func(p *Port) any {
		w := newWalk(seed, asks, handles)
		p.Note(w.noted)
		for w.left > 0 {
			w.one(p)
			p.Note(w.noted)
		}
		return w.out()
	}
}

// pair is a machine, and the walk that it has, which asks another memory itself.
type pair struct {
	x *Machine
	w *walk
	n int
}

// step does a step of both, and holds what the machine tells against where the walk stands.
func (c *pair) step(t *testing.T, m, twin *mem.Mem) {
	t.Helper()
	if c.w.left > 0 {
		c.w.one(twin)
		c.n++
	}
	over := c.w.left <= 0
	if c.x.Step() != over {
		t.Fatalf("behind %d asks: over %v, want %v", c.n, !over, over)
	}
	if m.Count() != twin.Count() || m.Live() != twin.Live() || m.Stale() != twin.Stale() {
		t.Fatalf("Count, Live, Stale: %d, %d, %d, want %d, %d, %d", m.Count(), m.Live(), m.Stale(), twin.Count(), twin.Live(), twin.Stale())
	}
	c.holds(t)
}

// holds holds what the machine tells against where the walk stands.
func (c *pair) holds(t *testing.T) {
	t.Helper()
	if c.n == 0 && c.w.left > 0 {
		stands(t, c.x, 0, 0)
	} else if c.w.left > 0 {
		stands(t, c.x, c.n, c.w.noted)
	} else {
		ended(t, c.x, c.w.out(), c.n, c.w.noted)
	}
}

// pairs are so many machines of one memory, and as many walks of another one that is the same.
func pairs(t *testing.T, seed, many, cells int) (*mem.Mem, *mem.Mem, []*pair) {
	t.Helper()
	m, twin := fresh(t, cells), fresh(t, cells)
	var shared []int
	for i := range (cells + 1) / 2 {
		shared = append(shared, number(t, m, i))
		number(t, twin, i)
	}
	d := drawer(seed)
	var l []*pair
	for i := range many {
		asks := 1 + d.below(30)
		l = append(l, &pair{x: New(m, by(seed*100+i, asks, shared)), w: newWalk(seed*100+i, asks, shared)})
	}
	return m, twin, l
}

// orders are the ways in which steps of several machines are done: each says whose step is next, by how many were done; below 0 none is left to do.
var orders = map[string]func(d *drawer, l []*pair, done int) int{
	"turn by turn":              func(d *drawer, l []*pair, done int) int { return done % len(l) },
	"one behind the other":      func(d *drawer, l []*pair, done int) int { return first(l) },
	"the last one ahead of all": func(d *drawer, l []*pair, done int) int { return last(l) },
	"drawn":                     func(d *drawer, l []*pair, done int) int { return d.below(len(l)) },
	"drawn, some left standing": func(d *drawer, l []*pair, done int) int { return d.below(len(l)-len(l)/3) + len(l)/3 },
	"one far ahead":             func(d *drawer, l []*pair, done int) int { return d.below(len(l)) * min(1, d.below(4)) },
	"five in a row":             func(d *drawer, l []*pair, done int) int { return done / 5 % len(l) },
}

// first is the first machine whose walk isn't over, or the first one.
func first(l []*pair) int {
	for i, c := range l {
		if c.w.left > 0 {
			return i
		}
	}
	return 0
}

// last is the last machine whose walk isn't over, or the first one.
func last(l []*pair) int {
	for i := len(l) - 1; i > 0; i-- {
		if l[i].w.left > 0 {
			return i
		}
	}
	return 0
}

// 13.3: of many machines of one memory, in whatever order their steps are done, each has asked, behind each step, what its function asks by the answers that it had.
func TestOrders(t *testing.T) {
	for name, next := range orders {
		t.Run(name, func(t *testing.T) {
			for seed := range 60 {
				many, cells := []int{2, 2, 3, 5, 12, 40}[seed%6], 1+seed%9
				d := drawer(seed)
				m, twin, l := pairs(t, seed, many, cells)
				for done := range many * 45 {
					l[next(&d, l, done)].step(t, m, twin)
				}
				for _, c := range l {
					c.holds(t)
				}
				same(t, m, twin)
			}
		})
	}
}

// 13.3: a step of one machine changes nothing of what another one tells.
func TestOthersStay(t *testing.T) {
	for seed := range 20 {
		d := drawer(seed)
		m, twin, l := pairs(t, seed, 4, 6)
		for range 120 {
			l[d.below(4)].step(t, m, twin)
			for _, c := range l {
				c.holds(t)
			}
		}
	}
}

// 13.3: a machine whose steps are done one behind the other does what Do does of a memory that was the same: it leaves memory so, answers so, and asked as often.
func TestAsDo(t *testing.T) {
	for seed := range 300 {
		cells, asks := 1+seed%9, seed%50
		m, twin := fresh(t, cells), fresh(t, cells)
		shared := []int{number(t, m, 3)}
		number(t, twin, 3)
		f := by(seed, asks, shared)
		x := New(m, f)
		for steps := 1; !x.Step(); steps++ {
			if x.Steps() != steps || m.Count() != 1+steps {
				t.Fatalf("Steps %d, Count %d, want %d, %d", x.Steps(), m.Count(), steps, 1+steps)
			}
		}
		want := Do(twin, f)
		if x.Out() != want || x.Steps() != twin.Count()-1 {
			t.Fatalf("%d steps, %v, want %d, %v", x.Steps(), x.Out(), twin.Count()-1, want)
		}
		same(t, m, twin)
	}
}

// 13.2: Do does what the function does when it asks memory itself.
func TestDoAsItself(t *testing.T) {
	for seed := range 300 {
		cells, asks := 1+seed%9, seed%50
		m, twin := fresh(t, cells), fresh(t, cells)
		w := newWalk(seed, asks, nil)
		for w.left > 0 {
			w.one(twin)
		}
		if got := Do(m, by(seed, asks, nil)); got != w.out() {
			t.Fatalf("%v, want %v", got, w.out())
		}
		same(t, m, twin)
	}
}

// 13.3: many machines that add to one word in a loop, in whatever order: none is lost, and each step of theirs asked once.
func TestAllAdd(t *testing.T) {
	for seed := range 30 {
		d := drawer(seed)
		many := 2 + d.below(20)
		m := fresh(t, 1)
		h := number(t, m, 0)
		var l []*Machine
		for range many {
			l = append(l, New(m, addOne(h)))
		}
		steps := 0
		for left := many; left > 0; {
			x := l[d.below(many)]
			if x.Ended() {
				continue
			}
			if steps++; x.Step() {
				left--
			}
		}
		if m.Count() != steps+1 {
			t.Fatalf("Count %d, want %d", m.Count(), steps+1)
		}
		holds(t, m, h, many)
		seen := map[int]bool{}
		for _, x := range l {
			if tries, ok := x.Out().(int); !ok || x.Steps() != 2*tries {
				t.Fatalf("Out %v, Steps %d", x.Out(), x.Steps())
			}
			seen[x.Noted()] = true
		}
		for n := 1; n <= many; n++ {
			if !seen[n] {
				t.Fatalf("none of %d made the word %d", many, n)
			}
		}
	}
}
