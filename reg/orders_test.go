package reg

import (
	"testing"

	"rundle/api"
	"rundle/desc"
	"rundle/mem"
	"rundle/step"
)

// inAllOrders does something with each order of steps of several machines, of which each has so many: the list says whose step is next.
func inAllOrders(left []int, f func(turns []int)) {
	turns, sum := []int{}, 0
	for _, n := range left {
		sum += n
	}
	var next func()
	next = func() {
		if len(turns) == sum {
			f(turns)
			return
		}
		for i := range left {
			if left[i] > 0 {
				left[i]--
				turns = append(turns, i)
				next()
				turns = turns[:len(turns)-1]
				left[i]++
			}
		}
	}
	next()
}

// rise publishes the descriptor of the next version, and does it. The one before stays, as somebody may be on his way to it.
func rise(t *testing.T, m *mem.Mem, r Reg) {
	t.Helper()
	step.Do(m, func(p *step.Port) any {
		old, d, _, err := desc.Latest(p, r.Top)
		if err != api.OK {
			t.Fatalf("the last descriptor: %d", err)
		}
		h, _ := desc.Make(p, d.Version+1, d.Version, nil)
		if ok, err := desc.Publish(p, r.Top, old, h); !ok || err != api.OK {
			t.Fatalf("publish: %v, %d", ok, err)
		}
		d, _ = desc.Load(p, h)
		desc.Help(p, d)
		return nil
	})
}

// ending is the number that a machine answered.
func ending(t *testing.T, x *step.Machine) int {
	t.Helper()
	out, ok := x.Out().(told)
	if !ok || out.err != api.OK {
		t.Fatalf("a machine answered %v", x.Out())
	}
	return out.n
}

// 15.4: one enters, while another one asks Least, and versions rise: in each order of their steps Least is at most what Enter answered.
func TestEnterBesideLeast(t *testing.T) {
	inAllOrders([]int{5, 6, 2}, func(turns []int) {
		m, r := begun(t, 2, 1, 4)
		x, y := machine(m, r, enter(1)), machine(m, r, least(0))
		for _, turn := range turns {
			switch turn {
			case 0:
				x.Step()
			case 1:
				y.Step()
			case 2:
				rise(t, m, r)
			}
		}
		if in, l := ending(t, x), ending(t, y); l > in {
			t.Fatalf("%v: Enter answered %d, Least %d", turns, in, l)
		}
	})
}

// 15.4: one enters, opens a snapshot of its version, and leaves, while another one asks Least, and the version rises: in each order of their steps Least is at most the snapshot's version.
func TestOpenBesideLeast(t *testing.T) {
	inAllOrders([]int{8, 6, 1}, func(turns []int) {
		m, r := begun(t, 2, 1, 2)
		x := machine(m, r, func(p *step.Port, r Reg) (int, api.Errno) {
			v, _ := Enter(p, r, 1)
			id, err := Open(p, r, v)
			Leave(p, r, 1)
			return v + 100*id, err
		})
		y := machine(m, r, least(0))
		for _, turn := range turns {
			switch turn {
			case 0:
				x.Step()
			case 1:
				y.Step()
			case 2:
				rise(t, m, r)
			}
		}
		if of, l := ending(t, x), ending(t, y); l > of {
			t.Fatalf("%v: the snapshot is of %d, Least %d", turns, of, l)
		}
	})
}

// 15.4: one who entered at 9 finds a snapshot of 4, holds it, and finds it once more, while another one closes it, and a third one asks Least: in each order of their steps Least is at most 4, if it was found twice; else at most 9.
func TestHoldBesideLeast(t *testing.T) {
	for _, snaps := range []int{1, 2} {
		inAllOrders([]int{3, 2, 5 + snaps}, func(turns []int) {
			m, r := begun(t, 2, snaps, 0)
			reach(t, m, r, 12)
			m.Store(r.Slots[1], 10)
			m.Store(r.Snaps[snaps-1], 5)
			id := snaps - 1
			l := []*step.Machine{machine(m, r, func(p *step.Port, r Reg) (int, api.Errno) {
				v, err := Find(p, r, id)
				if err != api.OK {
					return 9, api.OK
				}
				Hold(p, r, 1, v)
				if _, err := Find(p, r, id); err != api.OK {
					return 9, api.OK
				}
				return v, api.OK
			}), machine(m, r, shut(id)), machine(m, r, least(0))}
			for _, turn := range turns {
				l[turn].Step()
			}
			if held, least := ending(t, l[0]), ending(t, l[2]); least > held {
				t.Fatalf("%v: %d is held, Least %d", turns, held, least)
			}
		})
	}
}

// 15.4: two open a snapshot each, and close it: in each order of their steps they have ids of their own; of one place just one has it at one time.
func TestOpenBesideOpen(t *testing.T) {
	for snaps := 1; snaps <= 2; snaps++ {
		inAllOrders([]int{6, 6}, func(turns []int) {
			m, r := begun(t, 1, snaps, 0)
			both := func(version int) *step.Machine {
				return machine(m, r, func(p *step.Port, r Reg) (int, api.Errno) {
					id, err := Open(p, r, version)
					if err != api.OK {
						return -1, api.OK
					}
					if v, err := Find(p, r, id); v != version || err != api.OK {
						return 0, api.ErrNone
					}
					return id, Close(p, r, id)
				})
			}
			l := []*step.Machine{both(4), both(7)}
			for _, turn := range append(turns[:len(turns):len(turns)], 0, 1) {
				l[turn].Step()
			}
			a, b := ending(t, l[0]), ending(t, l[1])
			if a == b || snaps == 2 && min(a, b) < 0 {
				t.Fatalf("%v: ids %d, %d", turns, a, b)
			}
			for _, id := range []int{a, b} {
				refuses(t, m, r, seek(id), api.ErrClosed, -1)
			}
		})
	}
}

// orders are the ways in which steps of several machines are done: each says whose step is next, of so many, when so many were done.
var orders = map[string]func(d *drawer, many, done int) int{
	"turn by turn":            func(d *drawer, many, done int) int { return done % many },
	"turn by turn, backwards": func(d *drawer, many, done int) int { return many - 1 - done%many },
	"drawn":                   func(d *drawer, many, done int) int { return d.below(many) },
	"drawn, some left standing": func(d *drawer, many, done int) int {
		return d.below(many-many/3*min(1, done/60)) + many/3*min(1, done/60)
	},
	"one far ahead":           func(d *drawer, many, done int) int { return d.below(many) * min(1, d.below(6)) },
	"the last one far behind": func(d *drawer, many, done int) int { return d.below(max(1, many-min(1, d.below(40)))) },
	"nine in a row":           func(d *drawer, many, done int) int { return done / 9 % many },
}

// What a worker is doing.
const (
	entering = iota
	leaving
	askingLeast
	opening
	closing
	seeking
	holding
	seekingAgain
	publishing
	reaping
)

// worker does one call behind the other, each by a machine of its own.
type worker struct {
	c    int // the client; one that there isn't does nothing but ask Least
	kind int
	x    *step.Machine
	id   int // the snapshot that is sought, or closed
	held int
	from int // the version when the call began
	seen int // how many snapshots were open at one time or other of the call

	in, asked, holds, over bool
	jobs                   int
	version                int // what Enter answered
	bound                  int // what Least may not be above, while the client is in
	floor                  int // the greatest one that Least told others
}

// world is memory in which many are at work.
type world struct {
	t      *testing.T
	d      *drawer
	m      *mem.Mem
	r      Reg
	cell   int // its word is the version that is done, or the one that is pending
	crew   []*worker
	open   map[int]int // versions by ids
	ever   []int       // all ids that were told
	told   int         // the greatest one that Least told
	reaps  bool
	reaped int
	counts [10]int
}

// newWorld has so many clients and places. Where nobody reaps, there are others who ask Least without having entered.
func newWorld(t *testing.T, d *drawer, reaps bool) *world {
	t.Helper()
	clients, snaps := 2+d.below(5), d.below(4)
	room := 600
	if reaps {
		room = 30
	}
	w := &world{t: t, d: d, open: map[int]int{}, reaps: reaps}
	w.m, w.r = begun(t, clients, snaps, room)
	w.cell = number(t, w.m, 0)
	for c := range clients {
		w.crew = append(w.crew, &worker{c: c})
	}
	if !reaps {
		w.crew = append(w.crew, &worker{c: -1}, &worker{c: clients})
	}
	return w
}

// version is the version that is done.
func (w *world) version() int {
	n, err, _ := does(w.m, w.r, func(p *step.Port, r Reg) (int, api.Errno) { return desc.Version(p, r.Top) })
	if err != api.OK {
		w.t.Fatalf("Version: %d", err)
	}
	return n
}

// publishOnce tries to publish a descriptor behind the last one, and does it; where that one is pending, it does that one.
func (w *world) publishOnce(p *step.Port, r Reg) (int, api.Errno) {
	old, d, is, err := desc.Latest(p, r.Top)
	if err != api.OK {
		return 0, err
	}
	if !is {
		return 0, desc.Help(p, d)
	}
	h, err := desc.Make(p, d.Version+1, d.Version, []desc.Swap{{Cell: w.cell, Old: d.Version, New: d.Version + 1}})
	if err != api.OK {
		return 0, api.OK
	}
	if ok, err := desc.Publish(p, r.Top, old, h); !ok || err != api.OK {
		return 0, max(err, desc.Undo(p, h))
	}
	mine, err := desc.Load(p, h)
	if err != api.OK {
		return 0, err
	}
	if err := desc.Help(p, mine); err != api.OK {
		return 0, err
	}
	return 1, desc.Drop(p, old, d.Version)
}

// reapAll frees what nobody at work may come to; how many cells.
func reapAll(c int) asking {
	return func(p *step.Port, r Reg) (int, api.Errno) {
		version, err := desc.Version(p, r.Top)
		if err != api.OK {
			return 0, err
		}
		below, err := Oldest(p, r, c)
		if err != api.OK {
			return 0, err
		}
		n := 0
		for place := range p.Cells() {
			if ok, _ := p.Reap(place, min(below, version)); ok {
				n++
			}
		}
		return n, api.OK
	}
}

// begin begins a call.
func (w *world) begin(x *worker, kind int, f asking) {
	x.kind, x.x = kind, machine(w.m, w.r, f)
	x.from, x.seen = w.version(), len(w.open)
	w.counts[kind]++
}

// idOf draws an id: mostly of one that was told lately.
func (w *world) idOf() int {
	if n := len(w.ever); n > 0 && w.d.below(8) > 0 {
		return w.ever[max(0, n-1-w.d.below(6))]
	}
	return w.d.below(140) - 2
}

// next begins a worker's next call. Who asked Least himself, or holds another version than that of his Enter, opens no snapshot: neither need tell what is of his version.
func (w *world) next(x *worker) {
	if !isClient(w.r, x.c) {
		w.begin(x, askingLeast, least(x.c))
		return
	}
	if !x.in {
		x.jobs = w.d.below(4)
		w.begin(x, entering, enter(x.c))
		return
	}
	x.jobs--
	if x.jobs < 0 || x.over {
		w.begin(x, leaving, leave(x.c))
		return
	}
	x.id = w.idOf()
	switch job := w.d.below(12); {
	case job < 3:
		x.asked = true
		w.begin(x, askingLeast, least(x.c))
	case job < 6 && !x.asked && !x.holds:
		w.begin(x, opening, open(x.version))
	case job < 7:
		w.begin(x, closing, shut(x.id))
	case job < 9 && !x.holds:
		w.begin(x, seeking, seek(x.id))
	case job < 10 && w.reaps:
		w.begin(x, reaping, reapAll(x.c))
	default:
		w.begin(x, publishing, w.publishOnce)
	}
}

// step does a worker's step, and looks at what its call answered, if it is over.
func (w *world) step(x *worker) {
	w.t.Helper()
	if x.x == nil {
		w.next(x)
	}
	if !x.x.Step() {
		return
	}
	out, ok := x.x.Out().(told)
	x.x = nil
	if !ok {
		w.t.Fatalf("a call answered nothing")
	}
	switch x.kind {
	case opening:
		w.opened(x, out)
	case closing:
		w.closed(x, out)
	case seeking, seekingAgain:
		w.sought(x, out)
	default:
		if out.err != api.OK {
			w.t.Fatalf("call %d: %v", x.kind, out)
		}
		w.did(x, out.n)
	}
}

// did takes in what a call answered that has no error.
func (w *world) did(x *worker, n int) {
	w.t.Helper()
	switch x.kind {
	case entering:
		if n < x.from || n > w.version() {
			w.t.Fatalf("Enter answered %d, versions were %d to %d", n, x.from, w.version())
		}
		x.in, x.asked, x.holds, x.over = true, false, false, false
		x.version, x.bound = n, n
	case leaving:
		x.in = false
	case askingLeast:
		if n > w.version() {
			w.t.Fatalf("Least answered %d, the version is %d", n, w.version())
		}
		w.told = max(w.told, n)
		for _, y := range w.crew {
			if y.c != x.c {
				y.floor = max(y.floor, n)
			}
		}
	case holding:
		w.begin(x, seekingAgain, seek(x.id))
	case reaping:
		w.reaped += n
	}
}

// opened takes in what Open answered.
func (w *world) opened(x *worker, out told) {
	w.t.Helper()
	if out.err == api.ErrFull {
		if x.seen < len(w.r.Snaps) {
			w.t.Fatalf("Open: no room, but %d of %d places were snapshots", x.seen, len(w.r.Snaps))
		}
		return
	}
	for _, id := range w.ever {
		if out.n == id {
			w.t.Fatalf("the id %d is told twice", id)
		}
	}
	if out.err != api.OK {
		w.t.Fatalf("Open: %v", out)
	}
	w.ever = append(w.ever, out.n)
	w.open[out.n] = x.version
	for _, y := range w.crew {
		y.seen++
	}
}

// closed takes in what Close answered.
func (w *world) closed(x *worker, out told) {
	w.t.Helper()
	_, is := w.open[x.id]
	if is && out != (told{}) || !is && out != (told{0, api.ErrClosed}) {
		w.t.Fatalf("Close of %d: %v; it was open: %v", x.id, out, is)
	}
	delete(w.open, x.id)
}

// sought takes in what Find answered: who finds a snapshot holds its version, and finds it once more; if it isn't there any more, he leaves.
func (w *world) sought(x *worker, out told) {
	w.t.Helper()
	version, is := w.open[x.id]
	if is && out != (told{version, api.OK}) || !is && out != (told{0, api.ErrClosed}) {
		w.t.Fatalf("Find of %d: %v, want %d, %v", x.id, out, version, is)
	}
	switch {
	case x.kind == seekingAgain && is:
		x.bound = x.held
	case x.kind == seekingAgain:
		x.over = true
	case is:
		x.holds, x.held, x.bound = true, version, max(x.bound, version)
		w.begin(x, holding, hold(x.c, version))
	}
}

// look tells whether anybody was passed over, or anybody came to what was freed.
func (w *world) look() {
	w.t.Helper()
	for _, x := range w.crew {
		if x.in && x.floor > x.bound {
			w.t.Fatalf("Least answered %d, and client %d needs %d", x.floor, x.c, x.bound)
		}
	}
	for id, version := range w.open {
		if w.told > version {
			w.t.Fatalf("Least answered %d, and the snapshot %d is of %d", w.told, id, version)
		}
	}
	if w.m.Stale() != 0 {
		w.t.Fatalf("somebody came to what was freed")
	}
}

// end lets all come to an end, and leave; then Least is the least one of the version and the open snapshots.
func (w *world) end() {
	w.t.Helper()
	for _, x := range w.crew {
		for x.jobs = 0; x.x != nil || x.in; {
			w.step(x)
			w.look()
			x.jobs = 0
		}
	}
	for _, h := range w.r.Slots {
		holds(w.t, w.m, h, 0)
	}
	want := w.version()
	for id, version := range w.open {
		want = min(want, version)
		tells(w.t, w.m, w.r, seek(id), version, 1)
	}
	tells(w.t, w.m, w.r, least(0), want, -1)
	tells(w.t, w.m, w.r, oldest(0), api.MaxVersion+1, -1)
}

// 15.4: some enter, hold, open, close, and leave, while others publish descriptors and do them, and others ask Least again and again: nobody who has entered, and not left, is passed over, and no snapshot that is open; no id is told twice, and none that was closed is found. Where cells are reaped below what Oldest tells, nobody who has entered comes to what was freed.
func TestManyAtWork(t *testing.T) {
	for name, order := range orders {
		t.Run(name, func(t *testing.T) {
			var counts [10]int
			reaped, risen := 0, 0
			for seed := range 80 {
				d := drawer(seed)
				w := newWorld(t, &d, seed%2 == 1)
				for done := range 500 {
					w.step(w.crew[order(&d, len(w.crew), done)])
					w.look()
				}
				w.end()
				for i, n := range w.counts {
					counts[i] += n
				}
				reaped += w.reaped
				risen += w.version()
			}
			for kind, n := range counts {
				if n < 20 {
					t.Fatalf("the call %d was begun %d times", kind, n)
				}
			}
			if reaped < 20 || risen < 200 {
				t.Fatalf("%d cells were reaped, versions rose by %d", reaped, risen)
			}
		})
	}
}
