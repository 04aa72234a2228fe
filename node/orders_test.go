package node

import (
	"math"
	"reflect"
	"slices"
	"testing"

	"rundle/api"
	"rundle/mem"
	"rundle/rev"
	"rundle/step"
)

// inAllOrders does something with each order of steps of several machines, of which each has so many: the list says whose step is next.
func inAllOrders(left []int, f func(turns []int)) {
	turns, sum := []int{}, 0
	for _, n := range left {
		sum += n
	}
	var next func()
	next = func() {
		if len(turns) == sum {
			f(turns)
			return
		}
		for i := range left {
			if left[i] > 0 {
				left[i]--
				turns = append(turns, i)
				next()
				turns = turns[:len(turns)-1]
				left[i]++
			}
		}
	}
	next()
}

// run does the steps of machines in an order, and all that are left; what they answered.
func run(t *testing.T, turns []int, l ...*step.Machine) []told {
	t.Helper()
	for _, i := range turns {
		l[i].Step()
	}
	var out []told
	for _, x := range l {
		for !x.Step() {
		}
		out = append(out, ending(t, x))
	}
	return out
}

// alone is how many steps a call has that is done alone.
func alone(t *testing.T, versions []int, f func(n Node, hs []int) asking) int {
	t.Helper()
	m := fresh(t, 20)
	n, hs := chained(t, m, versions...)
	before := m.Count()
	if x := does(m, f(n, hs)); x.err != api.OK {
		t.Fatalf("a call alone: %+v", x)
	}
	return m.Count() - before
}

// stay is how many ages of a chain stay, if it is cut at some versions.
func stay(versions []int, leasts ...int) int {
	for i, v := range versions {
		for _, least := range leasts {
			if v <= least {
				return i + 1
			}
		}
	}
	return len(versions)
}

// wantCut wants what was told, all together, to be each cell behind the ages that stay, once; and these to be all that is left of the chain.
func wantCut(t *testing.T, m *mem.Mem, hs []int, stays int, out []told) {
	t.Helper()
	var all []int
	for _, x := range out {
		if x.err != api.OK {
			t.Fatalf("a call answered %+v", x)
		}
		all = append(all, x.cells...)
	}
	want := pairs(t, m, hs[stays:])
	slices.Sort(all)
	slices.Sort(want)
	if !slices.Equal(all, want) {
		t.Fatalf("%v were told, want %v", all, want)
	}
	ends(t, m, hs[:stays]...)
}

// 16.4: two cut one chain, at one least, and at unlike ones: in each order of their steps what is behind the newer age that one of them let stand is told once.
func TestCutBesideCut(t *testing.T) {
	t.Parallel()
	for _, x := range []struct{ versions, leasts []int }{
		{[]int{7, 5}, []int{7, 7}}, {[]int{7, 5}, []int{7, 5}}, {[]int{7, 5}, []int{5, 7}}, {[]int{7, 5}, []int{9, 4}},
		{[]int{7, 5, 2}, []int{7, 5}}, {[]int{7, 5, 2}, []int{3, 6}}, {[]int{7}, []int{7, 7}},
	} {
		var left []int
		for _, least := range x.leasts {
			left = append(left, alone(t, x.versions, func(n Node, hs []int) asking { return cutting(n, least) }))
		}
		inAllOrders(left, func(turns []int) {
			m := fresh(t, 8)
			n, hs := chained(t, m, x.versions...)
			out := run(t, turns, machine(m, cutting(n, x.leasts[0])), machine(m, cutting(n, x.leasts[1])))
			wantCut(t, m, hs, stay(x.versions, x.leasts...), out)
			if m.Stale() != 0 || !reflect.DeepEqual(plain(does(m, cutting(n, math.MinInt))), told{}) {
				t.Fatalf("%v: %d handles were stale", turns, m.Stale())
			}
		})
	}
}

// cutsAndFrees cuts, and frees what it is told.
func cutsAndFrees(n Node, least int) asking {
	return func(p *step.Port) told {
		x := told{}
		x.cells, x.err = Cut(p, n, least)
		for _, h := range x.cells {
			if err := p.Free(h); err != api.OK {
				x.err = err
			}
		}
		x.cells = nil
		return x
	}
}

// 16.4: two cut one chain at one least, and free at once what they are told: in each order of their steps nobody comes to what was freed, since nobody asks for what the other one has taken.
func TestCutAndFreed(t *testing.T) {
	t.Parallel()
	versions := []int{5, 3}
	steps := alone(t, versions, func(n Node, hs []int) asking { return cutsAndFrees(n, 6) })
	inAllOrders([]int{steps, steps}, func(turns []int) {
		m := fresh(t, 8)
		n, hs := chained(t, m, versions...)
		out := run(t, turns, machine(m, cutsAndFrees(n, 6)), machine(m, cutsAndFrees(n, 6)))
		if out[0].err != api.OK || out[1].err != api.OK || m.Live() != 4 || m.Stale() != 0 {
			t.Fatalf("%v: %+v, %d cells live", turns, out, m.Live())
		}
		ends(t, m, hs[0])
	})
}

// 16.4: one cuts, while another one fells an age of the chain, or two fell: in each order of their steps what is behind an age is told to one of them.
func TestFellBesideCut(t *testing.T) {
	t.Parallel()
	versions := []int{7, 5, 2}
	for i := range 3 {
		for _, least := range []int{7, 5, 2} {
			cut := func(n Node, hs []int) asking { return cutting(n, least) }
			fell := func(n Node, hs []int) asking { return felling(hs[i]) }
			inAllOrders([]int{alone(t, versions, cut), alone(t, versions, fell)}, func(turns []int) {
				m := fresh(t, 8)
				n, hs := chained(t, m, versions...)
				own := pairs(t, m, hs[i:i+1])
				out := run(t, turns, machine(m, cut(n, hs)), machine(m, fell(n, hs)))
				if len(out[1].cells) < 2 || !slices.Equal(out[1].cells[:2], own) {
					t.Fatalf("%v: Fell told %v", turns, out[1])
				}
				// What the felled age is, Fell tells in any case; Cut may tell it as well, as it stood in the chain.
				out[1].cells = out[1].cells[2:]
				wantCut(t, m, hs, stay(versions, least, versions[i]), out)
			})
		}
	}
}

// 16.4: one reads, while another one cuts, at no greater a version: in each order of their steps he answers what he would answer alone.
func TestReadBesideCut(t *testing.T) {
	t.Parallel()
	versions := []int{7, 5, 2}
	for _, least := range []int{1, 2, 4, 5, 7} {
		for _, version := range []int{1, 2, 4, 5, 6, 7, 9, -1} {
			cut := func(n Node, hs []int) asking { return cutting(n, least) }
			reading := func(n Node, hs []int) asking { return askingAt(n, version) }
			if version < least && version >= 0 {
				continue
			}
			if version < 0 {
				reading = func(n Node, hs []int) asking { return newestOf(n) }
			}
			inAllOrders([]int{alone(t, versions, cut), alone(t, versions, reading)}, func(turns []int) {
				m := fresh(t, 8)
				n, hs := chained(t, m, versions...)
				want := does(m, reading(n, hs))
				out := run(t, turns, machine(m, cut(n, hs)), machine(m, reading(n, hs)))
				if !reflect.DeepEqual(out[1], want) {
					t.Fatalf("%v: cut at %d, %d is asked for: %+v, want %+v", turns, least, version, out[1], want)
				}
			})
		}
	}
}

// orders are the ways in which steps of several machines are done: each says whose step is next, of so many, when so many were done.
var orders = map[string]func(d *drawer, many, done int) int{
	"turn by turn":            func(d *drawer, many, done int) int { return done % many },
	"turn by turn, backwards": func(d *drawer, many, done int) int { return many - 1 - done%many },
	"drawn":                   func(d *drawer, many, done int) int { return d.below(many) },
	"drawn, some left standing": func(d *drawer, many, done int) int {
		return d.below(many-many/3*min(1, done/60)) + many/3*min(1, done/60)
	},
	"one far ahead":           func(d *drawer, many, done int) int { return d.below(many) * min(1, d.below(6)) },
	"the last one far behind": func(d *drawer, many, done int) int { return d.below(max(1, many-min(1, d.below(40)))) },
	"nine in a row":           func(d *drawer, many, done int) int { return done / 9 % many },
}

// 16.4: many cut one chain once each, at one least, or at unlike ones, while others read it, at no less a version: what is told is told once, what stays ends with the newest age that one of them let stand, and who reads answers what he would answer alone.
func TestManyCut(t *testing.T) {
	for name, order := range orders {
		t.Run(name, func(t *testing.T) {
			shared := 0
			for seed := range 300 {
				d := drawer(seed)
				var versions []int
				for v := 40; len(versions) < 1+seed%9; v -= 1 + d.below(3) {
					versions = append(versions, v)
				}
				m := fresh(t, 30)
				n, hs := chained(t, m, versions...)
				var l []*step.Machine
				var leasts []int
				var alone []told
				for range 2 + d.below(4) {
					least := 41 - d.below(18)
					if seed%3 == 0 && len(leasts) > 0 {
						least = leasts[0]
					}
					leasts = append(leasts, least)
					l = append(l, machine(m, cutting(n, least)))
				}
				for range d.below(4) {
					f := askingAt(n, slices.Max(leasts)+d.below(4))
					if d.below(4) == 0 {
						f = newestOf(n)
					}
					alone = append(alone, does(m, f))
					l = append(l, machine(m, f))
				}
				var turns []int
				for done := range 200 {
					turns = append(turns, order(&d, len(l), done))
				}
				out := run(t, turns, l...)
				if got := out[len(leasts):]; len(got) > 0 && !reflect.DeepEqual(got, alone) {
					t.Fatalf("seed %d: read %+v, want %+v", seed, got, alone)
				}
				wantCut(t, m, hs, stay(versions, leasts...), out[:len(leasts)])
				if busy := slices.DeleteFunc(out, func(x told) bool { return len(x.cells) == 0 }); len(busy) > 1 {
					shared++
				}
			}
			if shared < 20 {
				t.Fatalf("several were told something %d times", shared)
			}
		})
	}
}

// worker does one call behind the other, each by a machine of its own: it cuts, reads, lays ages over the others, or lets one stand in place of the newest.
type worker struct {
	x       *step.Machine
	reads   bool
	version int
	want    rev.Rev
	found   bool
}

// world is memory with one node, at which many are at work.
type world struct {
	t      *testing.T
	d      *drawer
	m      *mem.Mem
	n      Node
	cells  map[int]bool // the cells of all ages that were ever the newest, and whether they were told
	revs   []rev.Rev    // of all versions that there are, rising
	floor  int          // no version below it is asked for any more
	stands int          // the newest version that somebody let stand
	crew   []*worker
	counts [4]int
	told   int
}

// newWorld has a chain of a few ages, and so many workers.
func newWorld(t *testing.T, d *drawer) *world {
	t.Helper()
	w := &world{t: t, d: d, m: fresh(t, 2000), cells: map[int]bool{}, floor: -1}
	versions := []int{9, 7, 4, 2, 1}[d.below(5):]
	n, hs := chained(t, w.m, versions...)
	w.n = n
	for _, h := range slices.Backward(hs) {
		w.comes(h)
	}
	w.stands = w.revs[0].Version
	for range 2 + d.below(5) {
		w.crew = append(w.crew, &worker{})
	}
	return w
}

// comes takes in that an age is the newest one.
func (w *world) comes(h int) {
	w.t.Helper()
	a := age(w.t, w.m, h)
	for _, c := range []int{h, a.Prev} {
		if _, is := w.cells[c]; is {
			w.t.Fatalf("the cell %d was another age's", c)
		}
		w.cells[c] = false
	}
	if len(w.revs) == 0 || w.revs[len(w.revs)-1].Version < a.Rev.Version {
		w.revs = append(w.revs, a.Rev)
	}
}

// newest is the greatest version that there is.
func (w *world) newest() int { return w.revs[len(w.revs)-1].Version }

// needed is the least version at which somebody reads just now.
func (w *world) needed() int {
	least := w.newest()
	for _, y := range w.crew {
		if y.x != nil && y.reads {
			least = min(least, y.version)
		}
	}
	return least
}

// over lays an age of the next version over the newest one.
func over(t *testing.T, n Node) asking {
	return func(p *step.Port) told {
		for {
			h, a, err := Newest(p, n)
			if err != api.OK {
				return told{err: err}
			}
			v := a.Rev.Version + 1
			b, err := Lay(p, at(t, v), h)
			if err != api.OK {
				return told{err: err}
			}
			if ok, err := p.Swap(n.Head, h, b); ok || err != api.OK {
				return told{h: b, err: err}
			}
			if err := Lift(p, b); err != api.OK {
				return told{err: err}
			}
		}
	}
}

// instead lets an age without ages before it stand in place of the newest one, if that isn't newer than a version, and fells that one.
func instead(n Node, version int) asking {
	return func(p *step.Port) told {
		h, a, err := Newest(p, n)
		if err != api.OK || a.Rev.Version > version {
			return told{err: err}
		}
		b, err := Lay(p, a.Rev, 0)
		if err != api.OK {
			return told{err: err}
		}
		if ok, err := p.Swap(n.Head, h, b); !ok {
			return told{err: max(err, Lift(p, b))}
		}
		cells, err := Fell(p, h)
		return told{h: b, cells: cells, err: err}
	}
}

// begin begins a worker's next call.
func (w *world) begin(x *worker) {
	kind := w.d.below(10)
	*x = worker{}
	switch {
	case kind < 4:
		least := w.needed() - w.d.below(3)
		w.floor, w.stands = max(w.floor, least), max(w.stands, w.below(least).Version)
		x.x = machine(w.m, cutting(w.n, least))
		w.counts[0]++
	case kind < 7:
		x.reads, x.version = true, w.newest()-w.d.below(max(1, w.newest()-w.floor+1))
		x.want = w.below(x.version)
		x.found = x.want.Version <= x.version
		x.x = machine(w.m, askingAt(w.n, x.version))
		w.counts[1]++
	case kind < 9:
		x.x = machine(w.m, over(w.t, w.n))
		w.counts[2]++
	default:
		least := w.needed()
		w.floor = max(w.floor, least)
		x.x = machine(w.m, instead(w.n, least))
		w.counts[3]++
	}
}

// step does a worker's step, and looks at what its call answered, if it is over.
func (w *world) step(x *worker) {
	w.t.Helper()
	if x.x == nil {
		w.begin(x)
	}
	before, _ := w.m.Word(w.n.Head)
	ended := x.x.Step()
	if now, _ := w.m.Word(w.n.Head); now != before {
		w.comes(now)
	}
	if !ended {
		return
	}
	out := ending(w.t, x.x)
	x.x = nil
	if out.err != api.OK {
		w.t.Fatalf("a call answered %+v", out)
	}
	if out.h != 0 && len(out.cells) > 0 {
		w.stands = max(w.stands, age(w.t, w.m, out.h).Rev.Version)
	}
	if x.reads && (out.ok != x.found || x.found && !reflect.DeepEqual(out.age.Rev, x.want)) {
		w.t.Fatalf("%d is asked for: %+v, want %+v", x.version, out, x.want)
	}
	for _, c := range out.cells {
		if was, is := w.cells[c]; was || !is {
			w.t.Fatalf("the cell %d is told: it was told before, or is no age's", c)
		}
		w.cells[c] = true
		w.told++
	}
}

// end lets all come to an end: then each cell of an age was told, or is one of the chain that is left; and what it ends with is what was let stand.
func (w *world) end() {
	w.t.Helper()
	for _, x := range w.crew {
		for x.x != nil {
			w.step(x)
		}
	}
	h, err := w.m.Word(w.n.Head)
	left, last := 0, 0
	for ; h != 0; left += 2 {
		a := age(w.t, w.m, h)
		if w.cells[h] || w.cells[a.Prev] {
			w.t.Fatalf("the age %d was told, and stands in the chain", h)
		}
		last = a.Rev.Version
		h, err = w.m.Word(a.Prev)
		if err != api.OK {
			w.t.Fatalf("a prev: %d", err)
		}
	}
	if w.told+left != len(w.cells) || w.m.Live() != 2+len(w.cells) || w.m.Stale() != 0 {
		w.t.Fatalf("%d cells were told, %d are left of %d; %d live", w.told, left, len(w.cells), w.m.Live())
	}
	if last != w.stands {
		w.t.Fatalf("the chain ends with %d, the newest that somebody let stand is %d", last, w.stands)
	}
}

// below is the revision of the greatest version that isn't above another one; the first one, if there is none.
func (w *world) below(version int) rev.Rev {
	for _, r := range slices.Backward(w.revs) {
		if r.Version <= version {
			return r
		}
	}
	return w.revs[0]
}

// 16.4: some cut one chain, at versions that rise, while others read it, lay ages over it, and let one stand in place of the newest: no cell is told twice, each one of an age is told, or is left in the chain, and who reads at a version that nobody cut above answers what was laid at it.
func TestManyAtWork(t *testing.T) {
	for name, order := range orders {
		t.Run(name, func(t *testing.T) {
			var counts [4]int
			cells := 0
			for seed := range 60 {
				d := drawer(seed)
				w := newWorld(t, &d)
				for done := range 600 {
					w.step(w.crew[order(&d, len(w.crew), done)])
				}
				w.end()
				for i, n := range w.counts {
					counts[i] += n
				}
				cells += w.told
			}
			for kind, n := range counts {
				if n < 100 {
					t.Fatalf("the call %d was begun %d times", kind, n)
				}
			}
			if cells < 500 {
				t.Fatalf("%d cells were told", cells)
			}
		})
	}
}
