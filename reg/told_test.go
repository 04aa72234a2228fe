package reg

import (
	"testing"

	"rundle/api"
	"rundle/mem"
	"rundle/step"
)

// drawer draws numbers, the same ones each time.
type drawer uint64

func (d *drawer) below(n int) int {
	*d = *d*6364136223846793005 + 1442695040888963407
	return int(uint64(*d)>>33) % n
}

// of draws one of a list.
func (d *drawer) of(l []int) int { return l[d.below(len(l))] }

// seat is a slot, told once more: whether its cell is there, whether it holds a word, and the version that it tells, if any.
type seat struct {
	err     api.Errno
	busy    bool
	version int
}

// spot is a place, told once more.
type spot struct {
	err     api.Errno
	open    bool
	version int
	gen     int
}

// telling is a register, told once more from the chapter's words.
type telling struct {
	top           api.Errno
	done, pending int
	seats         []seat
	spots         []spot
}

// version is the version that is done.
func (l *telling) version() (told, int) {
	if l.top != api.OK {
		return told{0, l.top}, 1
	}
	return told{l.done, api.OK}, 3
}

// enter is what Enter answers, and how often it asks.
func (l *telling) enter(c int) (told, int) {
	if c < 0 || c >= len(l.seats) {
		return told{0, api.ErrArg}, 0
	}
	if err := l.seats[c].err; err != api.OK {
		return told{0, err}, 1
	}
	l.seats[c] = seat{busy: true}
	v, asks := l.version()
	if v.err != api.OK {
		return v, 1 + asks
	}
	l.seats[c].version = v.n
	return v, 1 + asks + 1
}

// hold is what Hold, or (busy is false) Leave answers, and how often it asks.
func (l *telling) hold(c, version int, busy bool) (told, int) {
	if c < 0 || c >= len(l.seats) || version < 0 || version > 1<<30 {
		return told{0, api.ErrArg}, 0
	}
	if err := l.seats[c].err; err != api.OK {
		return told{0, err}, 1
	}
	l.seats[c] = seat{busy: busy, version: version}
	return told{}, 1
}

// scan is the least of a version, and of what the slots of all but c tell.
func (l *telling) scan(from told, asks, c int) (told, int) {
	for i, s := range l.seats {
		if i == c || from.err != api.OK {
			continue
		}
		asks++
		if s.err != api.OK {
			return told{0, s.err}, asks
		}
		if s.busy && s.version < from.n {
			from.n = s.version
		}
	}
	return from, asks
}

// least is what Least answers, and how often it asks.
func (l *telling) least(c int) (told, int) {
	from, asks := l.version()
	from, asks = l.scan(from, asks, c)
	for _, s := range l.spots {
		if from.err != api.OK {
			break
		}
		asks++
		if s.err != api.OK {
			return told{0, s.err}, asks
		}
		if s.open && s.version < from.n {
			from.n = s.version
		}
	}
	return l.scan(from, asks, c)
}

// open is what Open answers, and how often it asks.
func (l *telling) open(version int) (told, int) {
	if version < 0 || version > 1<<30 {
		return told{0, api.ErrArg}, 0
	}
	for i, s := range l.spots {
		if s.err != api.OK {
			return told{0, s.err}, i + 1
		}
		if !s.open && s.gen != 1<<30-1 {
			l.spots[i].open, l.spots[i].version = true, version
			return told{s.gen*64 + i, api.OK}, i + 2
		}
	}
	return told{0, api.ErrFull}, len(l.spots)
}

// spot is the place of an open snapshot.
func (l *telling) spot(id int) (*spot, api.Errno) {
	for i := range l.spots {
		s := &l.spots[i]
		if id >= 0 && id%64 == i && s.err != api.OK {
			return nil, s.err
		}
		if s.open && s.gen*64+i == id {
			return s, api.OK
		}
	}
	return nil, api.ErrClosed
}

// seek is what Find answers.
func (l *telling) seek(id int) told {
	s, err := l.spot(id)
	if err != api.OK {
		return told{0, err}
	}
	return told{s.version, api.OK}
}

// shut is what Close answers.
func (l *telling) shut(id int) told {
	s, err := l.spot(id)
	if err == api.OK {
		s.open, s.version, s.gen = false, 0, s.gen+1
	}
	return told{0, err}
}

// draw is a register, its second telling, and all ids that were ever told.
type draw struct {
	drawer
	m   *mem.Mem
	r   Reg
	l   *telling
	ids []int
}

// newDraw has so many clients and places; some of the places had many generations before.
func newDraw(t *testing.T, seed int) *draw {
	t.Helper()
	w := &draw{drawer: drawer(seed)}
	clients, snaps := 1+w.below(5), w.below(5)
	if seed%20 == 0 {
		clients, snaps = 64, 64
	}
	w.m, w.r = begun(t, clients, snaps, 0)
	w.l = &telling{seats: make([]seat, clients), spots: make([]spot, snaps)}
	w.ids = []int{0, -1, snaps, 64 + snaps, 1<<36 - 64}
	for i, h := range w.r.Snaps {
		if w.below(4) == 0 {
			w.l.spots[i].gen = 1<<30 - 1 - w.below(4)
			w.m.Store(h, w.l.spots[i].gen<<32)
		}
	}
	return w
}

// number draws a version; seldom a number that is none.
func (w *draw) number() int {
	if w.below(12) == 0 {
		return w.of([]int{-1, 0, api.MaxVersion, api.MaxVersion + 1, -1 << 40, 1 << 40, 1<<32 + 5})
	}
	return w.below(40)
}

// asked does a drawn call, and holds what it answers against the second telling.
func (w *draw) asked(t *testing.T) {
	t.Helper()
	c, version, id := w.below(len(w.l.seats)+2)-1, w.number(), w.of(w.ids)
	if w.below(2) == 0 {
		id = w.ids[max(0, len(w.ids)-1-w.below(6))]
	}
	var f asking
	var want told
	asks := -1
	which := w.below(10)
	switch which {
	case 0, 1:
		f = enter(c)
		want, asks = w.l.enter(c)
	case 2:
		f = hold(c, version)
		want, asks = w.l.hold(c, version, true)
	case 3:
		f = leave(c)
		want, asks = w.l.hold(c, 0, false)
	case 4:
		f = least(c)
		want, asks = w.l.least(c)
	case 5:
		f = oldest(c)
		want, asks = w.l.scan(told{api.MaxVersion + 1, api.OK}, 0, c)
	case 6, 7:
		f = open(version)
		want, asks = w.l.open(version)
	case 8:
		f, want = seek(id), w.l.seek(id)
	case 9:
		f, want = shut(id), w.l.shut(id)
	}
	n, err, k := does(w.m, w.r, f)
	if (told{n, err}) != want || asks >= 0 && k != asks {
		t.Fatalf("call %d of %d, %d, %d: %d, %d, %d asks, want %v, %d asks", which, c, version, id, n, err, k, want, asks)
	}
	if which/2 == 3 && err == api.OK {
		w.ids = append(w.ids, n)
	}
}

// other lets the version be another one, or seldom a cell be freed.
func (w *draw) other(t *testing.T) {
	t.Helper()
	if w.below(6) > 0 {
		if w.l.top == api.OK {
			w.l.done, w.l.pending = w.below(40), w.below(40)
			if w.below(2) == 0 {
				publish(t, w.m, w.r, w.l.done, w.l.pending, true)
			} else {
				publish(t, w.m, w.r, w.l.pending, w.l.done, false)
			}
		}
		return
	}
	if w.below(20) == 0 {
		w.m.Free(w.r.Top)
		w.l.top = api.ErrStale
	}
	if i := w.below(40); i < len(w.l.seats) {
		w.m.Free(w.r.Slots[i])
		w.l.seats[i] = seat{err: api.ErrStale}
	}
	if i := w.below(40); i < len(w.l.spots) {
		w.m.Free(w.r.Snaps[i])
		w.l.spots[i] = spot{err: api.ErrStale}
	}
}

// same holds all words of the register against the second telling.
func (w *draw) same(t *testing.T) {
	t.Helper()
	for i, s := range w.l.seats {
		if s.err == api.OK {
			holds(t, w.m, w.r.Slots[i], []int{0, s.version + 1}[bit(s.busy)])
		}
	}
	for i, s := range w.l.spots {
		if s.err == api.OK {
			holds(t, w.m, w.r.Snaps[i], s.gen*1<<32+[]int{0, s.version + 1}[bit(s.open)])
		}
	}
}

// bit is 1 of true, else 0.
func bit(is bool) int {
	if is {
		return 1
	}
	return 0
}

// 15.1 to 15.3: drawn calls, one behind the other, answer what the chapter's words, told once more, say, and ask as often; and the register's words are what they say.
func TestToldOnceMore(t *testing.T) {
	for seed := range 300 {
		w := newDraw(t, seed)
		for range 400 {
			if w.below(8) == 0 {
				w.other(t)
			} else {
				w.asked(t)
			}
			w.same(t)
		}
	}
}

// 15.4: an id of a snapshot that was closed is never one again, however often its place is used.
func TestIdsNeverComeBack(t *testing.T) {
	m, r := begun(t, 1, 3, 0)
	d := drawer(1)
	versions := map[int]int{}
	var ids, closed []int
	for range 3000 {
		v := d.below(9)
		id, err, _ := does(m, r, open(v))
		if _, is := versions[id]; is && err == api.OK || (err == api.OK) != (len(ids) < 3) {
			t.Fatalf("Open: %d, %d, while %v are open", id, err, ids)
		}
		if err == api.OK {
			ids, versions[id] = append(ids, id), v
		}
		for i := len(ids) - 1; i >= 0; i-- {
			tells(t, m, r, seek(ids[i]), versions[ids[i]], 1)
			if d.below(4) == 0 {
				tells(t, m, r, shut(ids[i]), 0, 2)
				closed, ids = append(closed, ids[i]), append(ids[:i:i], ids[i+1:]...)
			}
		}
		for range min(9, len(closed)) {
			refuses(t, m, r, seek(d.of(closed)), api.ErrClosed, 1)
			refuses(t, m, r, shut(d.of(closed)), api.ErrClosed, 1)
		}
	}
	if len(closed) < 1000 {
		t.Fatalf("%d snapshots were closed", len(closed))
	}
}

// 15.1 to 15.4: what a call answers hangs on the register's words alone: a machine's steps, one behind the other, come to what Do comes to.
func TestStepByStep(t *testing.T) {
	for seed := range 60 {
		a, b := newDraw(t, seed), newDraw(t, seed)
		for range 60 {
			var f asking
			v, c := a.number(), a.below(len(a.l.seats))
			id := a.of(a.ids)
			switch a.below(8) {
			case 0:
				f = enter(c)
			case 1:
				f = hold(c, v)
			case 2:
				f = leave(c)
			case 3:
				f = least(c)
			case 4:
				f = oldest(c)
			case 5:
				f = open(v)
			case 6:
				f = seek(id)
			case 7:
				f = shut(id)
			}
			n, err, asks := does(a.m, a.r, f)
			x := step.New(b.m, func(p *step.Port) any {
				n, err := f(p, b.r)
				return told{n, err}
			})
			for !x.Step() {
			}
			if x.Out() != any(told{n, err}) || x.Steps() != asks {
				t.Fatalf("%v, %d steps, want %d, %d, %d asks", x.Out(), x.Steps(), n, err, asks)
			}
			if err == api.OK {
				a.ids = append(a.ids, n)
			}
		}
	}
}
