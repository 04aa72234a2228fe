package desc

import (
	"slices"
	"testing"

	"rundle/api"
	"rundle/mem"
	"rundle/step"
)

// orders are the ways in which steps of several machines are done: each says whose step is next, of so many, when so many were done.
var orders = map[string]func(d *drawer, many, done int) int{
	"turn by turn":              func(d *drawer, many, done int) int { return done % many },
	"turn by turn, backwards":   func(d *drawer, many, done int) int { return many - 1 - done%many },
	"drawn":                     func(d *drawer, many, done int) int { return d.below(many) },
	"drawn, some left standing": func(d *drawer, many, done int) int { return d.below(many-many/3) + many/3 },
	"one far ahead":             func(d *drawer, many, done int) int { return d.below(many) * min(1, d.below(6)) },
	"the last one far behind":   func(d *drawer, many, done int) int { return d.below(max(1, many-min(1, d.below(40)))) },
	"five in a row":             func(d *drawer, many, done int) int { return done / 5 % many },
}

// inOrders does the same in each of the orders, with many draws.
func inOrders(t *testing.T, f func(t *testing.T, d *drawer, next func(many, done int) int)) {
	for name, order := range orders {
		t.Run(name, func(t *testing.T) {
			for seed := range 40 {
				d := drawer(seed)
				f(t, &d, func(many, done int) int { return order(&d, many, done) })
			}
		})
	}
}

// stand is memory with a top, cells that descriptors change, and machines that help; and what the cells should hold.
type stand struct {
	m      *mem.Mem
	top    int
	cells  []int
	now    []int
	word   int
	last   Desc
	states []int
	crew   []helper
}

// helper is a machine that helps: the descriptor whose status that is, or whichever is the last one (0).
type helper struct {
	x      *step.Machine
	status int
}

// newStand is a stand of so many cells.
func newStand(t *testing.T, cells, room int) *stand {
	t.Helper()
	m, top := begun(t, cells+room)
	s := &stand{m: m, top: top}
	for range cells {
		s.word++
		s.cells = append(s.cells, number(t, m, s.word))
		s.now = append(s.now, s.word)
	}
	return s
}

// read is all that descriptors may change: the words of the cells, of the statuses, and of the top.
func (s *stand) read(t *testing.T) []int {
	t.Helper()
	var l []int
	for _, h := range slices.Concat(s.cells, s.states, []int{s.top}) {
		n, err := s.m.Word(h)
		if err != api.OK {
			t.Fatalf("the word of %d: %d", h, err)
		}
		l = append(l, n)
	}
	return l
}

// draw draws swaps of what the cells hold, with words that never were, and changes what they should hold: some cells are named several times, by words one behind the other, or by one word.
func (s *stand) draw(d *drawer) []Swap {
	var swaps []Swap
	next := slices.Clone(s.now)
	for range d.below(6) {
		i := d.below(len(s.cells))
		old := next[i]
		if d.below(3) == 0 {
			old = s.now[i]
		}
		s.word++
		swaps = append(swaps, Swap{s.cells[i], old, s.word})
		if old == next[i] {
			next[i] = s.word
		}
	}
	s.now = next
	return swaps
}

// publish publishes a descriptor of such swaps behind the last one, which is done.
func (s *stand) publish(t *testing.T, version int, swaps []Swap) {
	t.Helper()
	h := made(t, s.m, version, version-1, swaps...)
	publish(t, s.m, s.top, h)
	s.last = loaded(t, s.m, h)
	s.states = append(s.states, s.last.Status)
}

// hire adds machines that help the last descriptor.
func (s *stand) hire(d *drawer, many int) {
	last, top := s.last, s.top
	for range many {
		if d.below(2) == 0 {
			s.crew = append(s.crew, helper{step.New(s.m, func(p *step.Port) any { return Help(p, last) }), last.Status})
			continue
		}
		s.crew = append(s.crew, helper{step.New(s.m, func(p *step.Port) any {
			_, d, is, err := Latest(p, top)
			if is || err != api.OK {
				return err
			}
			return Help(p, d)
		}), 0})
	}
}

// done tells whether the last descriptor is done.
func (s *stand) done(t *testing.T) bool {
	t.Helper()
	n, err := s.m.Word(s.last.Status)
	if err != api.OK {
		t.Fatalf("the status: %d", err)
	}
	return n == 1
}

// step does a step of one that helps: who is late changes nothing, and who ended leaves the words of the descriptor.
func (s *stand) step(t *testing.T, c helper) {
	t.Helper()
	before, late := s.read(t), s.done(t) || c.status != 0 && c.status != s.last.Status
	over := c.x.Ended()
	ended := c.x.Step()
	if ended && c.x.Out() != any(api.OK) {
		t.Fatalf("Help: %v", c.x.Out())
	}
	after := s.read(t)
	if late && !slices.Equal(before, after) {
		t.Fatalf("one who is late changed %v to %v", before, after)
	}
	if ended && !over && c.status == s.last.Status && !s.done(t) {
		t.Fatalf("one that helped ended, and the descriptor isn't done")
	}
	if s.done(t) && !slices.Equal(after[:len(s.cells)], s.now) {
		t.Fatalf("the descriptor is done, and cells hold %v, want %v", after[:len(s.cells)], s.now)
	}
}

// 14.5: however many help, and however late: once the first one ended a descriptor's cells hold its words, until one that is published behind it changes them; who was left standing in the midst changes nothing any more.
func TestManyHelp(t *testing.T) {
	inOrders(t, func(t *testing.T, d *drawer, next func(many, done int) int) {
		s := newStand(t, 1+d.below(4), 40)
		steps := 0
		for version := range 8 {
			s.publish(t, version+1, s.draw(d))
			s.hire(d, 1+d.below(5))
			for !s.done(t) {
				newest := len(s.crew) - 1 - d.below(3)*d.below(2)
				at := []int{next(len(s.crew), steps), max(0, newest)}[d.below(2)]
				s.step(t, s.crew[at])
				steps++
			}
			s.check(t, version+1)
		}
		for _, c := range s.crew {
			for range 20 {
				s.step(t, c)
			}
			if !c.x.Ended() {
				t.Fatalf("one that helps doesn't end")
			}
		}
		s.check(t, 8)
	})
}

// check holds the version, and the cells, against what they should be.
func (s *stand) check(t *testing.T, version int) {
	t.Helper()
	h, _ := s.m.Word(s.top)
	stands(t, s.m, s.top, h, s.last, true)
	if s.last.Version != version || !slices.Equal(s.read(t)[:len(s.cells)], s.now) {
		t.Fatalf("version %d, cells %v, want %d, %v", s.last.Version, s.read(t)[:len(s.cells)], version, s.now)
	}
}

// 14.5: of two that help, the first one is left standing behind each of its steps, while the second one helps, and others are published and done behind it; then it goes on.
func TestLeftStanding(t *testing.T) {
	for swaps := range 6 {
		for stop := range swaps + 2 {
			for behind := range 4 {
				s := newStand(t, max(1, swaps), 40)
				s.publish(t, 1, s.all(swaps))
				last := s.last
				x := helper{step.New(s.m, func(p *step.Port) any { return Help(p, last) }), last.Status}
				for range stop {
					s.step(t, x)
				}
				helped(t, s.m, last, swaps+1, api.OK)
				s.check(t, 1)
				for i := range behind {
					s.publish(t, i+2, s.all(swaps))
					if i%2 == 0 {
						s.step(t, x)
					}
					helped(t, s.m, s.last, swaps+1, api.OK)
				}
				for range swaps + 1 {
					s.step(t, x)
				}
				if !x.x.Ended() {
					t.Fatalf("%d swaps, left standing behind %d steps: it doesn't end", swaps, stop)
				}
				s.check(t, behind+1)
			}
		}
	}
}

// all are swaps of that many cells, one each.
func (s *stand) all(many int) []Swap {
	var swaps []Swap
	for i := range many {
		s.word++
		swaps = append(swaps, Swap{s.cells[i], s.now[i], s.word})
		s.now[i] = s.word
	}
	return swaps
}

// 14.5: of those who publish at one time just one does; behind Undo of all others as many cells live as if it had been alone.
func TestOnePublishes(t *testing.T) {
	inOrders(t, func(t *testing.T, d *drawer, next func(many, done int) int) {
		many := 1 + d.below(12)
		m, top := begun(t, 3*2*many)
		for version := range 3 {
			old, _ := m.Word(top)
			live := m.Live()
			var l []*step.Machine
			for i := range many {
				l = append(l, step.New(m, func(p *step.Port) any {
					h, err := Make(p, version+1, version, []Swap{{i, i, i}})
					if err != api.OK {
						return err
					}
					ok, err := Publish(p, top, old, h)
					if err != api.OK {
						return err
					}
					if ok {
						return h
					}
					return Undo(p, h)
				}))
			}
			run(l, next)
			h := 0
			for _, x := range l {
				if n, ok := x.Out().(int); ok && h == 0 {
					h = n
				} else if ok || x.Out() != any(api.OK) {
					t.Fatalf("%v, while %d was published", x.Out(), h)
				}
			}
			if h == 0 || m.Live() != live+2 || m.Stale() != 0 {
				t.Fatalf("%d was published, %d cells live, want %d", h, m.Live(), live+2)
			}
			stands(t, m, top, h, loaded(t, m, h), false)
			m.Store(loaded(t, m, h).Status, 1)
		}
	})
}

// run does steps of machines in an order, and then of each that the order leaves standing, till all have ended.
func run(l []*step.Machine, next func(many, done int) int) {
	for done := range 40 * len(l) {
		l[next(len(l), done)].Step()
	}
	for _, x := range l {
		for !x.Step() {
		}
	}
}

// adder adds 1 to the words of some cells, so many times, each time by a descriptor of its own; and notes how many times it did. It answers the versions at which it did, or an error.
func adder(top int, cells []int, times int) func(p *step.Port) any {
	return func(p *step.Port) any {
		var at []int
		for len(at) < times {
			version, err := addOnce(p, top, cells)
			if err != api.OK {
				return err
			}
			if version > 0 {
				at = append(at, version)
				p.Note(len(at))
			}
		}
		return at
	}
}

// addOnce tries to add 1 to the words of some cells; 0: another one was ahead of it.
func addOnce(p *step.Port, top int, cells []int) (int, api.Errno) {
	old, d, is, err := Latest(p, top)
	if err != api.OK {
		return 0, err
	}
	if !is {
		return 0, Help(p, d)
	}
	var swaps []Swap
	for _, cell := range cells {
		n, err := p.Word(cell)
		if err != api.OK {
			return 0, err
		}
		swaps = append(swaps, Swap{cell, n, n + 1})
	}
	h, err := Make(p, d.Version+1, d.Version, swaps)
	if err != api.OK {
		return 0, err
	}
	if ok, err := Publish(p, top, old, h); !ok || err != api.OK {
		return 0, max(err, Undo(p, h))
	}
	mine, err := Load(p, h)
	if err != api.OK {
		return 0, err
	}
	if err := Help(p, mine); err != api.OK {
		return 0, err
	}
	return mine.Version, Drop(p, old, d.Version)
}

// field is memory in which many add to the same cells.
type field struct {
	m     *mem.Mem
	top   int
	cells []int
	l     []*step.Machine
	times int
}

// newField has so many adders, each of which adds so many times.
func newField(t *testing.T, many, cells, times int) *field {
	t.Helper()
	m, top := begun(t, cells+2*many*(times+1))
	f := &field{m: m, top: top, times: times}
	for range cells {
		f.cells = append(f.cells, number(t, m, 0))
	}
	for range many {
		f.l = append(f.l, step.New(m, adder(top, f.cells, times)))
	}
	return f
}

// version is the version that Version answers.
func (f *field) version(t *testing.T) int {
	t.Helper()
	v, err := 0, api.OK
	call(f.m, func(p *step.Port) { v, err = Version(p, f.top) })
	if err != api.OK {
		t.Fatalf("Version: %d", err)
	}
	return v
}

// look holds the cells against the version: each holds as much as the versions that are done, or one more while the next one is pending. It answers the version.
func (f *field) look(t *testing.T) int {
	t.Helper()
	var is bool
	call(f.m, func(p *step.Port) { _, _, is, _ = Latest(p, f.top) })
	v := f.version(t)
	for _, cell := range f.cells {
		n, err := f.m.Word(cell)
		if err != api.OK || n < v || n > v+1 || is && n != v {
			t.Fatalf("version %d (%v): a cell holds %d, %d", v, is, n, err)
		}
	}
	return v
}

// end holds what all adders told, and what is left, against what it should be.
func (f *field) end(t *testing.T) {
	t.Helper()
	total := len(f.l) * f.times
	var all []int
	for _, x := range f.l {
		at, ok := x.Out().([]int)
		if !ok || len(at) != f.times || !slices.IsSorted(at) {
			t.Fatalf("one that adds ended with %v", x.Out())
		}
		all = append(all, at...)
	}
	slices.Sort(all)
	for i, v := range all {
		if v != i+1 {
			t.Fatalf("versions %v", all)
		}
	}
	if v := f.look(t); v != total || f.m.Stale() != 0 {
		t.Fatalf("version %d, want %d; %d asks were stale", v, total, f.m.Stale())
	}
	if n := reap(f.m, total); n != 2*total || f.m.Live() != 3+len(f.cells) {
		t.Fatalf("%d cells reaped, %d live", n, f.m.Live())
	}
}

// 14.5: many who each publish descriptors that add 1 to words, again and again till they are published: nothing is lost, and the version grows by 1 at each.
func TestManyAdd(t *testing.T) {
	inOrders(t, func(t *testing.T, d *drawer, next func(many, done int) int) {
		f := newField(t, 1+d.below(9), 1+d.below(3), 1+d.below(3))
		version := 0
		for done := range 60 * len(f.l) {
			f.l[next(len(f.l), done)].Step()
			now := f.look(t)
			if now < version || now > version+1 {
				t.Fatalf("version %d behind %d, in one step", now, version)
			}
			version = now
		}
		run(f.l, func(many, done int) int { return done % many })
		f.end(t)
	})
}

// 14.5: nobody waits: wherever all others were left standing, one that is stepped alone adds within as many steps as are told here: it ends what it had begun in vain, helps, and adds.
func TestNobodyWaits(t *testing.T) {
	inOrders(t, func(t *testing.T, d *drawer, next func(many, done int) int) {
		cells := 1 + d.below(3)
		f := newField(t, 2+d.below(7), cells, 3)
		for done := range d.below(200) {
			f.l[next(len(f.l), done)].Step()
		}
		try := 3 + cells + 2 + 1
		bound := try + 3 + 3 + cells + 1 + try + 1 + cells + 1 + 3
		for alone := range d.below(len(f.l)) + 1 {
			x := f.l[alone]
			noted, steps := x.Noted(), 0
			for !x.Ended() && x.Noted() == noted {
				x.Step()
				steps++
			}
			if steps > bound {
				t.Fatalf("alone it took %d steps, more than %d", steps, bound)
			}
			for done := range d.below(50) {
				f.l[next(len(f.l), done)].Step()
			}
		}
		run(f.l, func(many, done int) int { return done % many })
		f.end(t)
	})
}

// 14.5: whoever asks the version while others add is told one that was the version in between.
func TestVersionMeanwhile(t *testing.T) {
	inOrders(t, func(t *testing.T, d *drawer, next func(many, done int) int) {
		f := newField(t, 2+d.below(4), 1, 3)
		type reader struct {
			x    *step.Machine
			from int
		}
		begin := func() reader {
			return reader{step.New(f.m, func(p *step.Port) any {
				v, err := Version(p, f.top)
				return [2]int{v, int(err)}
			}), f.version(t)}
		}
		readers := []reader{begin(), begin(), begin()}
		for done := range 80 * len(f.l) {
			f.l[next(len(f.l), done)].Step()
			i := d.below(9)
			if i >= len(readers) || !readers[i].x.Step() {
				continue
			}
			out, _ := readers[i].x.Out().([2]int)
			if now := f.version(t); out[1] != 0 || out[0] < readers[i].from || out[0] > now {
				t.Fatalf("version %v, from %d to %d", out, readers[i].from, now)
			}
			readers[i] = begin()
		}
		run(f.l, func(many, done int) int { return done % many })
		f.end(t)
	})
}
