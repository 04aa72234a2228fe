package reg

import (
	"math"
	"slices"
	"testing"

	"rundle/api"
	"rundle/desc"
	"rundle/mem"
	"rundle/step"
)

// asking is one of the layer's calls, of a register; of those that answer an error alone the number is 0.
type asking func(p *step.Port, r Reg) (int, api.Errno)

func enter(c int) asking {
	return func(p *step.Port, r Reg) (int, api.Errno) { return Enter(p, r, c) }
}

func hold(c, version int) asking {
	return func(p *step.Port, r Reg) (int, api.Errno) { return 0, Hold(p, r, c, version) }
}

func leave(c int) asking {
	return func(p *step.Port, r Reg) (int, api.Errno) { return 0, Leave(p, r, c) }
}

func least(c int) asking {
	return func(p *step.Port, r Reg) (int, api.Errno) { return Least(p, r, c) }
}

func oldest(c int) asking {
	return func(p *step.Port, r Reg) (int, api.Errno) { return Oldest(p, r, c) }
}

func open(version int) asking {
	return func(p *step.Port, r Reg) (int, api.Errno) { return Open(p, r, version) }
}

func seek(id int) asking {
	return func(p *step.Port, r Reg) (int, api.Errno) { return Find(p, r, id) }
}

func shut(id int) asking {
	return func(p *step.Port, r Reg) (int, api.Errno) { return 0, Close(p, r, id) }
}

// fresh is memory whose cells are all free.
func fresh(t *testing.T, cells int) *mem.Mem {
	t.Helper()
	m, err := mem.New(cells)
	if err != api.OK {
		t.Fatalf("%d cells: %d", cells, err)
	}
	return m
}

// number lets a cell hold a word.
func number(t *testing.T, m *mem.Mem, n int) int {
	t.Helper()
	h, err := m.AllocWord(n)
	if err != api.OK {
		t.Fatalf("AllocWord(%d): %d", n, err)
	}
	return h
}

// block lets a cell hold a block.
func block(t *testing.T, m *mem.Mem, b any) int {
	t.Helper()
	h, err := m.Alloc(b)
	if err != api.OK {
		t.Fatalf("Alloc(%v): %d", b, err)
	}
	return h
}

// freed is a handle of what was freed, whose cell holds another word meanwhile.
func freed(t *testing.T, m *mem.Mem) int {
	t.Helper()
	h := number(t, m, 0)
	m.Free(h)
	number(t, m, 1)
	return h
}

// room fills memory up to so many free cells.
func room(t *testing.T, m *mem.Mem, left int) {
	t.Helper()
	for m.Live() < m.Cells()-left {
		number(t, m, 70)
	}
}

// holds holds the word of a cell against what it should be.
func holds(t *testing.T, m *mem.Mem, h, want int) {
	t.Helper()
	if n, err := m.Word(h); n != want || err != api.OK {
		t.Fatalf("the word of %d: %d, %d, want %d", h, n, err, want)
	}
}

// words holds the words of cells against what they should be.
func words(t *testing.T, m *mem.Mem, cells []int, want ...int) {
	t.Helper()
	if len(cells) != len(want) {
		t.Fatalf("%d cells, want %d", len(cells), len(want))
	}
	for i, h := range cells {
		holds(t, m, h, want[i])
	}
}

// does does a call; what it answers, and how often it asked.
func does(m *mem.Mem, r Reg, f asking) (int, api.Errno, int) {
	before := m.Count()
	n, err := 0, api.OK
	step.Do(m, func(p *step.Port) any {
		n, err = f(p, r)
		return nil
	})
	return n, err, m.Count() - before
}

// tells holds what a call answers, and how often it asked, against what it should be; asks below 0: however often.
func tells(t *testing.T, m *mem.Mem, r Reg, f asking, want, asks int) {
	t.Helper()
	if n, err, k := does(m, r, f); n != want || err != api.OK || asks >= 0 && k != asks {
		t.Fatalf("%d, %d, %d asks, want %d, 0, %d asks", n, err, k, want, asks)
	}
}

// refuses holds the error that a call answers, beside nothing, and how often it asked, against what it should be; asks below 0: however often.
func refuses(t *testing.T, m *mem.Mem, r Reg, f asking, want api.Errno, asks int) {
	t.Helper()
	if n, err, k := does(m, r, f); n != 0 || err != want || asks >= 0 && k != asks {
		t.Fatalf("%d, %d, %d asks, want 0, %d, %d asks", n, err, k, want, asks)
	}
}

// made is what Init answers.
func made(m *mem.Mem, top, clients, snaps int) (Reg, api.Errno) {
	r, err := Reg{}, api.OK
	step.Do(m, func(p *step.Port) any {
		r, err = Init(p, top, clients, snaps)
		return nil
	})
	return r, err
}

// begun is memory with a top of version 0, a register of so many clients and places, and so many cells more.
func begun(t *testing.T, clients, snaps, more int) (*mem.Mem, Reg) {
	t.Helper()
	m := fresh(t, 3+clients+snaps+more)
	top, err := 0, api.OK
	step.Do(m, func(p *step.Port) any {
		top, err = desc.Init(p)
		return nil
	})
	if err != api.OK {
		t.Fatalf("a top: %d", err)
	}
	r, err := made(m, top, clients, snaps)
	if err != api.OK {
		t.Fatalf("Init(%d, %d, %d): %d", top, clients, snaps, err)
	}
	return m, r
}

// last is the last descriptor's handle, and that of its status.
func last(t *testing.T, m *mem.Mem, r Reg) (int, int) {
	t.Helper()
	var h int
	var d desc.Desc
	var err api.Errno
	step.Do(m, func(p *step.Port) any {
		h, d, _, err = desc.Latest(p, r.Top)
		return nil
	})
	if err != api.OK {
		t.Fatalf("the last descriptor: %d", err)
	}
	return h, d.Status
}

// publish publishes a descriptor of a version; where it is to be done, it is done. The one before is freed.
func publish(t *testing.T, m *mem.Mem, r Reg, version, before int, done bool) {
	t.Helper()
	old, status := last(t, m, r)
	m.Free(status)
	m.Free(old)
	step.Do(m, func(p *step.Port) any {
		h, err := desc.Make(p, version, before, nil)
		if err != api.OK {
			t.Fatalf("a descriptor: %d", err)
		}
		if ok, err := desc.Publish(p, r.Top, old, h); !ok || err != api.OK {
			t.Fatalf("publish: %v, %d", ok, err)
		}
		d, _ := desc.Load(p, h)
		if done {
			desc.Help(p, d)
		}
		return nil
	})
}

// reach lets the version be this one.
func reach(t *testing.T, m *mem.Mem, r Reg, version int) {
	t.Helper()
	publish(t, m, r, version, 0, true)
}

// machine is a machine that does a call, and answers what it answers.
func machine(m *mem.Mem, r Reg, f asking) *step.Machine {
	return step.New(m, func(p *step.Port) any {
		n, err := f(p, r)
		return told{n, err}
	})
}

// told is what a call answered.
type told struct {
	n   int
	err api.Errno
}

// inOrder holds the cells that a call asks against what they should be: when the one whose turn it is has been freed, the call ends with ErrStale; and when all others have been, it goes on.
func inOrder(t *testing.T, begin func() (*mem.Mem, Reg), f asking, cells func(m *mem.Mem, r Reg) []int) {
	t.Helper()
	m, r := begin()
	for i := range cells(m, r) {
		m, r := begin()
		asked := cells(m, r)
		x := machine(m, r, f)
		for range i {
			x.Step()
		}
		m.Free(asked[i])
		if x.Step(); x.Out() != any(told{0, api.ErrStale}) || m.Stale() != 1 {
			t.Fatalf("ask %d isn't of the cell %d: %v", i, asked[i], x.Out())
		}
		m, r = begin()
		asked = cells(m, r)
		x = machine(m, r, f)
		for range i {
			x.Step()
		}
		top, status := last(t, m, r)
		for _, h := range slices.Concat([]int{r.Top, top, status}, r.Slots, r.Snaps) {
			if h != asked[i] {
				m.Free(h)
			}
		}
		if ended := x.Step(); ended != (i == len(asked)-1) || m.Stale() != 0 {
			t.Fatalf("ask %d isn't of the cell %d: %v, %v", i, asked[i], ended, x.Out())
		}
	}
}

// far are numbers far out.
var far = []int{math.MinInt, -1 << 40, 1 << 31, 1 << 40, math.MaxInt}

// odd are numbers that are handles of nothing in memory of few cells that are of their first generations.
var odd = []int{0, -1, 1000, 65536, 65537 + 65536*16000, 1 << 30, 1 << 40, math.MinInt, math.MaxInt}

// 15.1: Init: as many slots and places as were asked for, words of 0 in cells of their own; the top is the one that was given, which isn't asked.
func TestInit(t *testing.T) {
	for _, clients := range []int{1, 2, 63, 64} {
		for _, snaps := range []int{0, 1, 63, 64} {
			for _, top := range []int{3, 0, -1, math.MaxInt} {
				m := fresh(t, clients+snaps+2)
				room(t, m, clients+snaps)
				before := m.Count()
				r, err := made(m, top, clients, snaps)
				if err != api.OK || r.Top != top || len(r.Slots) != clients || len(r.Snaps) != snaps || m.Count()-before != clients+snaps {
					t.Fatalf("Init(%d, %d, %d): %v, %d, %d asks", top, clients, snaps, r, err, m.Count()-before)
				}
				all := slices.Concat(r.Slots, r.Snaps)
				for _, h := range all {
					holds(t, m, h, 0)
				}
				slices.Sort(all)
				if len(slices.Compact(all)) != clients+snaps || m.Live() != m.Cells() {
					t.Fatalf("Init(%d, %d, %d): %v, %d cells live", top, clients, snaps, r, m.Live())
				}
				words(t, m, []int{1, 2}, 70, 70)
			}
		}
	}
}

// 15.1: Init of other numbers of clients, or of places: ErrArg, also where memory is full; it isn't asked.
func TestInitArg(t *testing.T) {
	type pair struct{ clients, snaps int }
	pairs := []pair{{0, 0}, {-1, 4}, {65, 4}, {66, 0}, {0, 64}, {1, -1}, {64, -1}, {1, 65}, {64, 65}, {0, -1}, {65, 65}}
	for _, n := range far {
		pairs = append(pairs, pair{n, 1}, pair{1, n}, pair{n, n})
	}
	for _, x := range pairs {
		for _, left := range []int{0, 1, 200} {
			m := fresh(t, 201)
			room(t, m, left)
			before := m.Count()
			r, err := made(m, 1, x.clients, x.snaps)
			if err != api.ErrArg || r.Top != 0 || len(r.Slots) != 0 || len(r.Snaps) != 0 || m.Count() != before || m.Live() != 201-left {
				t.Fatalf("Init(1, %d, %d): %v, %d", x.clients, x.snaps, r, err)
			}
		}
	}
}

// 15.1: Init over memory with too few cells left, by one up to by all: ErrFull; those that it had allocated are free again.
func TestInitFull(t *testing.T) {
	for _, x := range [][2]int{{1, 0}, {1, 1}, {2, 0}, {2, 3}, {5, 1}, {64, 0}, {64, 64}} {
		for left := range x[0] + x[1] {
			m := fresh(t, left+3)
			room(t, m, left)
			r, err := made(m, 1, x[0], x[1])
			if err != api.ErrFull || r.Top != 0 || len(r.Slots) != 0 || len(r.Snaps) != 0 || m.Live() != 3 || m.Stale() != 0 {
				t.Fatalf("Init(1, %d, %d) over %d cells: %v, %d, %d cells live", x[0], x[1], left, r, err, m.Live())
			}
			words(t, m, []int{1, 2, 3}, 70, 70, 70)
			room(t, m, 0)
		}
	}
}

// 15.1: Init finds memory full in the midst, when others take its cells meanwhile: what it had is freed again.
func TestInitFullInTheMidst(t *testing.T) {
	for steps := range 7 {
		m := fresh(t, 20)
		x := step.New(m, func(p *step.Port) any {
			r, err := Init(p, 1, 4, 3)
			return told{len(r.Slots) + len(r.Snaps) + r.Top, err}
		})
		for range steps {
			x.Step()
		}
		room(t, m, 0)
		for range 20 {
			x.Step()
		}
		if x.Out() != any(told{0, api.ErrFull}) || m.Live() != 20-steps || m.Stale() != 0 {
			t.Fatalf("full behind %d steps: %v, %d cells live", steps, x.Out(), m.Live())
		}
	}
}

// 15.1: two registers of one memory know nothing of each other; the lists of one share nothing.
func TestInitTwice(t *testing.T) {
	m, r := begun(t, 3, 2, 20)
	other, err := made(m, r.Top, 3, 2)
	if err != api.OK {
		t.Fatalf("Init: %d", err)
	}
	tells(t, m, r, hold(1, 7), 0, 1)
	tells(t, m, r, open(6), 0, 2)
	words(t, m, other.Slots, 0, 0, 0)
	words(t, m, other.Snaps, 0, 0)
	was := slices.Clone(r.Snaps)
	_ = append(r.Slots, -5, -5, -5, -5)
	if !slices.Equal(r.Snaps, was) {
		t.Fatalf("places %v, were %v", r.Snaps, was)
	}
}

// 15.1: Enter, Hold and Leave of no client, and Hold of no version: ErrArg; memory isn't asked.
func TestNoClient(t *testing.T) {
	for _, clients := range []int{1, 3, 64} {
		m, r := begun(t, clients, 1, 0)
		for _, c := range append([]int{-1, clients, clients + 1, 64, 65}, far...) {
			if c >= 0 && c < clients {
				continue
			}
			for _, f := range []asking{enter(c), hold(c, 0), hold(c, -1), hold(c, api.MaxVersion+1), leave(c)} {
				refuses(t, m, r, f, api.ErrArg, 0)
			}
		}
		for c := range clients {
			m.Store(r.Slots[c], 9)
			for _, v := range append([]int{-1, api.MaxVersion + 1}, far...) {
				refuses(t, m, r, hold(c, v), api.ErrArg, 0)
			}
			holds(t, m, r.Slots[c], 9)
		}
	}
}

// 15.1: Hold: the slot tells the version, and 1, with one ask; Leave: it tells 0, of who entered, and of who didn't.
func TestHoldAndLeave(t *testing.T) {
	for _, clients := range []int{1, 2, 64} {
		m, r := begun(t, clients, 0, 0)
		for _, c := range []int{0, clients - 1} {
			tells(t, m, r, leave(c), 0, 1)
			holds(t, m, r.Slots[c], 0)
			for _, v := range []int{0, 1, 7, api.MaxVersion - 1, api.MaxVersion} {
				tells(t, m, r, hold(c, v), 0, 1)
				holds(t, m, r.Slots[c], v+1)
			}
			tells(t, m, r, leave(c), 0, 1)
			tells(t, m, r, enter(c), 0, 5)
			tells(t, m, r, hold(c, 4), 0, 1)
			tells(t, m, r, leave(c), 0, 1)
			tells(t, m, r, leave(c), 0, 1)
			for _, h := range r.Slots {
				holds(t, m, h, 0)
			}
		}
	}
}

// 15.1: Enter: the slot tells the version that is done, and 1; of a descriptor that is pending, the one before.
func TestEnter(t *testing.T) {
	for _, clients := range []int{1, 2, 64} {
		for c := range clients {
			m, r := begun(t, clients, 1, 2)
			for i, h := range r.Slots {
				m.Store(h, 100+i)
			}
			for _, v := range []int{0, 1, 5, api.MaxVersion - 1, api.MaxVersion} {
				publish(t, m, r, v, v/2, true)
				tells(t, m, r, enter(c), v, 5)
				holds(t, m, r.Slots[c], v+1)
				publish(t, m, r, v, v/2, false)
				tells(t, m, r, enter(c), v/2, 5)
				holds(t, m, r.Slots[c], v/2+1)
			}
			for i, h := range r.Slots {
				if i != c {
					holds(t, m, h, 100+i)
				}
			}
			holds(t, m, r.Snaps[0], 0)
		}
	}
}

// 15.1: Enter stores the slot as 1, then asks chapter 14's Version, then stores the slot as that, and 1.
func TestEnterInOrder(t *testing.T) {
	begin := func() (*mem.Mem, Reg) {
		m, r := begun(t, 3, 2, 0)
		reach(t, m, r, 8)
		return m, r
	}
	for c := range 3 {
		inOrder(t, begin, enter(c), func(m *mem.Mem, r Reg) []int {
			h, status := last(t, m, r)
			return []int{r.Slots[c], r.Top, h, status, r.Slots[c]}
		})
		m, r := begin()
		m.Store(r.Slots[c], 77)
		x := machine(m, r, enter(c))
		for range 4 {
			x.Step()
			holds(t, m, r.Slots[c], 1)
		}
		m.Store(r.Slots[c], 33)
		if !x.Step() || x.Out() != any(told{8, api.OK}) {
			t.Fatalf("Enter: %v", x.Out())
		}
		holds(t, m, r.Slots[c], 9)
	}
	m, r := begin()
	x := machine(m, r, enter(0))
	x.Step()
	reach(t, m, r, 11)
	for range 4 {
		x.Step()
	}
	if x.Out() != any(told{11, api.OK}) {
		t.Fatalf("Enter, while a version was done behind its first step: %v", x.Out())
	}
}

// 15.2, the example: nobody at work, version 4.
func TestExample(t *testing.T) {
	m, r := begun(t, 5, 3, 0)
	reach(t, m, r, 4)
	tells(t, m, r, least(0), 4, 3+4+3+4)
	tells(t, m, r, oldest(0), 1073741825, 4)
}

// 15.2: Least and Oldest of slots and places that tell versions: each of them is the least one once.
func TestLeast(t *testing.T) {
	cases := []struct {
		version             int
		slots, snaps        []int
		c, least, oldestone int
	}{
		{0, []int{0}, nil, 0, 0, api.MaxVersion + 1},
		{9, []int{0, 0}, []int{0}, 0, 9, api.MaxVersion + 1},
		{9, []int{3, 0}, []int{0}, 0, 9, api.MaxVersion + 1},
		{9, []int{3, 0}, []int{0}, 1, 2, 2},
		{9, []int{3, 8}, []int{0}, 0, 7, 7},
		{9, []int{3, 8, 5}, []int{0}, 0, 4, 4},
		{9, []int{5, 8, 3}, []int{0}, 0, 2, 2},
		{9, []int{5, 8, 3}, []int{0}, 2, 4, 4},
		{9, []int{5, 8, 3}, []int{0}, 3, 2, 2},
		{9, []int{5, 8, 3}, []int{0}, -1, 2, 2},
		{9, []int{1, 8, 3}, []int{0}, math.MinInt, 0, 0},
		{9, []int{8, 8, 2}, []int{0}, math.MaxInt, 1, 1},
		{9, []int{8, 1}, []int{0}, 0, 0, 0},
		{9, []int{8, 1}, []int{0}, 1, 7, 7},
		{9, []int{0, 21}, nil, 0, 9, 20},
		{9, []int{0, 10}, nil, 0, 9, 9},
		{9, []int{0, 11}, nil, 0, 9, 10},
		{9, []int{0, 0}, []int{4}, 0, 3, api.MaxVersion + 1},
		{9, []int{0, 0}, []int{0, 0, 4}, 0, 3, api.MaxVersion + 1},
		{9, []int{0, 5}, []int{0, 4, 7}, 0, 3, 4},
		{9, []int{0, 3}, []int{6, 4, 7}, 0, 2, 2},
		{9, []int{1, 5}, []int{6, 1, 7}, 0, 0, 4},
		{9, []int{0, 5}, []int{5<<32 + 3, 0}, 0, 2, 4},
		{9, []int{0, 5}, []int{5 << 32, 7<<32 + 4}, 0, 3, 4},
		{9, []int{0, 5}, []int{(1<<30-2)<<32 + 1}, 0, 0, 4},
		{9, []int{0, 0}, []int{(1<<30 - 1) << 32, 1 << 32, 0}, 0, 9, api.MaxVersion + 1},
		{9, []int{0, 0}, []int{20, 1<<32 + 10}, 0, 9, api.MaxVersion + 1},
		{api.MaxVersion, []int{0, 0}, []int{0}, 0, api.MaxVersion, api.MaxVersion + 1},
		{api.MaxVersion, []int{0, api.MaxVersion + 1}, []int{api.MaxVersion + 1}, 0, api.MaxVersion, api.MaxVersion},
		{api.MaxVersion, []int{0, api.MaxVersion}, []int{1<<32 + api.MaxVersion + 1}, 0, api.MaxVersion - 1, api.MaxVersion - 1},
	}
	for i, x := range cases {
		m, r := begun(t, len(x.slots), len(x.snaps), 0)
		reach(t, m, r, x.version)
		for j, w := range x.slots {
			m.Store(r.Slots[j], w)
		}
		for j, w := range x.snaps {
			m.Store(r.Snaps[j], w)
		}
		others := len(x.slots)
		if x.c >= 0 && x.c < others {
			others--
		}
		t.Logf("case %d", i)
		tells(t, m, r, least(x.c), x.least, 3+2*others+len(x.snaps))
		tells(t, m, r, oldest(x.c), x.oldestone, others)
		words(t, m, r.Slots, x.slots...)
		words(t, m, r.Snaps, x.snaps...)
	}
}

// 15.2: Least while a descriptor is pending: the version before.
func TestLeastPending(t *testing.T) {
	m, r := begun(t, 2, 1, 0)
	publish(t, m, r, 9, 6, false)
	tells(t, m, r, least(0), 6, 6)
	m.Store(r.Slots[1], 8)
	tells(t, m, r, least(0), 6, 6)
	m.Store(r.Slots[1], 4)
	tells(t, m, r, least(0), 3, 6)
	_, status := last(t, m, r)
	m.Store(status, 1)
	tells(t, m, r, least(1), 9, 6)
}

// 15.2: Least and Oldest of snapshots that are open, were closed, and are open again; and of who entered, held, and left.
func TestLeastBehindCalls(t *testing.T) {
	m, r := begun(t, 3, 2, 0)
	reach(t, m, r, 20)
	tells(t, m, r, open(12), 0, 2)
	tells(t, m, r, least(0), 12, -1)
	tells(t, m, r, oldest(0), api.MaxVersion+1, 2)
	tells(t, m, r, open(5), 1, 3)
	tells(t, m, r, least(0), 5, -1)
	tells(t, m, r, shut(1), 0, 2)
	tells(t, m, r, least(0), 12, -1)
	tells(t, m, r, shut(0), 0, 2)
	tells(t, m, r, least(0), 20, -1)
	tells(t, m, r, open(3), 64, 2)
	tells(t, m, r, least(0), 3, -1)
	tells(t, m, r, shut(64), 0, 2)
	tells(t, m, r, enter(1), 20, 5)
	reach(t, m, r, 25)
	tells(t, m, r, least(0), 20, -1)
	tells(t, m, r, least(1), 25, -1)
	tells(t, m, r, enter(2), 25, 5)
	tells(t, m, r, hold(2, 14), 0, 1)
	tells(t, m, r, least(0), 14, -1)
	tells(t, m, r, least(1), 14, -1)
	tells(t, m, r, least(2), 20, -1)
	tells(t, m, r, oldest(2), 20, -1)
	tells(t, m, r, oldest(-1), 14, -1)
	tells(t, m, r, leave(2), 0, 1)
	tells(t, m, r, oldest(0), 20, -1)
	tells(t, m, r, leave(1), 0, 1)
	tells(t, m, r, least(0), 25, -1)
	tells(t, m, r, oldest(0), api.MaxVersion+1, -1)
}

// others are the slots of all but a client.
func others(r Reg, c int) []int {
	if !isClient(r, c) {
		return r.Slots
	}
	return slices.Delete(slices.Clone(r.Slots), c, c+1)
}

// 15.2: Least asks the version first, then the slots of all but the client, then the places, then those slots once more; Oldest asks the slots of all but the client.
func TestLeastInOrder(t *testing.T) {
	for _, x := range [][2]int{{1, 0}, {1, 2}, {3, 2}, {4, 0}} {
		begin := func() (*mem.Mem, Reg) {
			m, r := begun(t, x[0], x[1], 0)
			reach(t, m, r, 6)
			for i, h := range slices.Concat(r.Slots, r.Snaps) {
				m.Store(h, i%3)
			}
			return m, r
		}
		for _, c := range []int{-1, 0, x[0] - 1, x[0]} {
			inOrder(t, begin, least(c), func(m *mem.Mem, r Reg) []int {
				h, status := last(t, m, r)
				return slices.Concat([]int{r.Top, h, status}, others(r, c), r.Snaps, others(r, c))
			})
			inOrder(t, begin, oldest(c), func(m *mem.Mem, r Reg) []int { return others(r, c) })
		}
	}
}

// 15.2: what is told at any one of the asks of Least counts: the slots' first time, the places, and the slots' second time.
func TestLeastAsks(t *testing.T) {
	for at := range 3 + 2 + 2 + 2 {
		for which := range 4 {
			m, r := begun(t, 3, 2, 0)
			reach(t, m, r, 9)
			h := []int{r.Slots[0], r.Slots[2], r.Snaps[0], r.Snaps[1]}[which]
			x := machine(m, r, least(1))
			for done := range 9 {
				if done == at {
					m.Store(h, 5)
				}
				x.Step()
				if done == at {
					m.Store(h, 0)
				}
			}
			want := 9
			if at == []int{3, 4, 5, 6}[which] || which < 2 && at == 7+which {
				want = 4
			}
			if x.Out() != any(told{want, api.OK}) {
				t.Fatalf("the cell %d tells 4 at ask %d: %v, want %d", which, at, x.Out(), want)
			}
		}
	}
}

// 15.3: Open: ErrArg of a version that isn't from 0 to 2^30, also where there is no place; memory isn't asked.
func TestOpenArg(t *testing.T) {
	for _, snaps := range []int{0, 1, 64} {
		m, r := begun(t, 1, snaps, 0)
		for _, v := range append([]int{-1, -2, api.MaxVersion + 1}, far...) {
			refuses(t, m, r, open(v), api.ErrArg, 0)
		}
		for _, h := range r.Snaps {
			holds(t, m, h, 0)
		}
	}
}

// 15.3: Open of 0, of 2^30 and of versions between: places are taken in order; ErrFull, when all are; of 0 places always.
func TestOpen(t *testing.T) {
	for _, snaps := range []int{0, 1, 2, 63, 64} {
		for _, v := range []int{0, 1, 500, api.MaxVersion - 1, api.MaxVersion} {
			m, r := begun(t, 1, snaps, 0)
			for id := range snaps {
				tells(t, m, r, open(v), id, id+2)
				for i, h := range r.Snaps {
					holds(t, m, h, []int{0, v + 1}[min(1, max(0, id+1-i))])
				}
				tells(t, m, r, seek(id), v, 1)
			}
			refuses(t, m, r, open(v), api.ErrFull, snaps)
			holds(t, m, r.Slots[0], 0)
		}
	}
}

// 15.3: a place that was closed is taken again, ahead of those behind it, by an id of the next generation.
func TestOpenAgain(t *testing.T) {
	m, r := begun(t, 1, 3, 0)
	tells(t, m, r, open(4), 0, 2)
	tells(t, m, r, open(5), 1, 3)
	tells(t, m, r, shut(0), 0, 2)
	words(t, m, r.Snaps, 1<<32, 6, 0)
	tells(t, m, r, open(6), 64, 2)
	words(t, m, r.Snaps, 1<<32+7, 6, 0)
	tells(t, m, r, shut(1), 0, 2)
	tells(t, m, r, shut(64), 0, 2)
	tells(t, m, r, open(0), 128, 2)
	tells(t, m, r, open(api.MaxVersion), 65, 3)
	tells(t, m, r, open(7), 2, 4)
	words(t, m, r.Snaps, 2<<32+1, 1<<32+api.MaxVersion+1, 8)
	refuses(t, m, r, open(7), api.ErrFull, 3)
	tells(t, m, r, seek(128), 0, 1)
	tells(t, m, r, seek(65), api.MaxVersion, 1)
	tells(t, m, r, seek(2), 7, 1)
	for _, id := range []int{0, 1, 64} {
		refuses(t, m, r, seek(id), api.ErrClosed, 1)
		refuses(t, m, r, shut(id), api.ErrClosed, 1)
	}
}

// 15.3: Open asks the places in order, and swaps the first one that is no open snapshot.
func TestOpenInOrder(t *testing.T) {
	begin := func() (*mem.Mem, Reg) {
		m, r := begun(t, 2, 4, 0)
		m.Store(r.Snaps[0], 3)
		m.Store(r.Snaps[1], 5<<32+1)
		return m, r
	}
	inOrder(t, begin, open(7), func(m *mem.Mem, r Reg) []int {
		return []int{r.Snaps[0], r.Snaps[1], r.Snaps[2], r.Snaps[2]}
	})
	full := func() (*mem.Mem, Reg) {
		m, r := begin()
		m.Store(r.Snaps[2], api.MaxVersion+1)
		m.Store(r.Snaps[3], lastGen<<32)
		return m, r
	}
	m, r := full()
	x := machine(m, r, open(7))
	for done := range 4 {
		if x.Step() != (done == 3) {
			t.Fatalf("Open of 4 places that are taken: ended behind %d asks: %v", done+1, x.Out())
		}
	}
	if x.Out() != any(told{0, api.ErrFull}) {
		t.Fatalf("Open of 4 places that are taken: %v", x.Out())
	}
	for i := range 4 {
		m, r := full()
		m.Free(r.Snaps[i])
		refuses(t, m, r, open(7), api.ErrStale, i+1)
	}
}

// 15.3: a place that somebody else takes between the ask and the swap is passed over, whether it is closed again, or not; what he did stays.
func TestOpenTakenMeanwhile(t *testing.T) {
	for closed := range 3 {
		for snaps := 1; snaps < 4; snaps++ {
			m, r := begun(t, 1, snaps, 0)
			x := machine(m, r, open(7))
			x.Step()
			id := 0
			for range closed {
				tells(t, m, r, open(3), id, 2)
				tells(t, m, r, shut(id), 0, 2)
				id += 64
			}
			if closed != 1 {
				tells(t, m, r, open(3), id, 2)
			}
			word, _ := m.Word(r.Snaps[0])
			for range 2 * snaps {
				x.Step()
			}
			want := told{1, api.OK}
			if snaps == 1 {
				want = told{0, api.ErrFull}
			} else {
				holds(t, m, r.Snaps[1], 8)
			}
			if x.Out() != any(want) {
				t.Fatalf("%d places, the first one taken meanwhile: %v, want %v", snaps, x.Out(), want)
			}
			holds(t, m, r.Snaps[0], word)
		}
	}
}

// 15.3: a place that is an open snapshot when it is asked, and closed behind that, is passed over too.
func TestOpenClosedMeanwhile(t *testing.T) {
	m, r := begun(t, 1, 2, 0)
	tells(t, m, r, open(3), 0, 2)
	x := machine(m, r, open(7))
	x.Step()
	tells(t, m, r, shut(0), 0, 2)
	x.Step()
	x.Step()
	if x.Out() != any(told{1, api.OK}) {
		t.Fatalf("Open: %v", x.Out())
	}
	words(t, m, r.Snaps, 1<<32, 8)
}

// strange are ids that were never told, where places 0 and 1 of 3 had the generations 0 and 1.
var strange = append([]int{-1, -64, -63, 2, 3, 63, 66, 67, 64 + 63, 128, 129, 130, 64 << 30, 1 << 32, 1<<32 + 64, 64<<32 + 1, 64 << 31, math.MinInt + 1, math.MaxInt - 63}, far...)

// 15.3: Find and Close of an id that was never told, that is below 0, of a place that there isn't, that was closed, and whose place is open again by another one: ErrClosed; nothing is changed.
func TestClosed(t *testing.T) {
	m, r := begun(t, 1, 3, 0)
	tells(t, m, r, open(4), 0, -1)
	tells(t, m, r, open(5), 1, -1)
	tells(t, m, r, shut(0), 0, 2)
	tells(t, m, r, shut(1), 0, 2)
	tells(t, m, r, open(6), 64, -1)
	for _, id := range append([]int{0, 1, 65}, strange...) {
		refuses(t, m, r, seek(id), api.ErrClosed, -1)
		refuses(t, m, r, shut(id), api.ErrClosed, -1)
		words(t, m, r.Snaps, 1<<32+7, 1<<32, 0)
	}
	tells(t, m, r, seek(64), 6, 1)
	none, zero := begun(t, 1, 0, 0)
	for _, id := range append([]int{0, 1, 64}, strange...) {
		refuses(t, none, zero, seek(id), api.ErrClosed, -1)
		refuses(t, none, zero, shut(id), api.ErrClosed, -1)
	}
}

// 15.3: Close: the snapshot is none any more, and the generation of its place is one more; what other places are stays.
func TestClose(t *testing.T) {
	m, r := begun(t, 2, 3, 0)
	for i, v := range []int{0, 9, api.MaxVersion} {
		tells(t, m, r, open(v), i, -1)
	}
	for round := range 5 {
		id := round*64 + 1
		tells(t, m, r, seek(id), 9, 1)
		tells(t, m, r, shut(id), 0, 2)
		words(t, m, r.Snaps, 1, (round+1)<<32, api.MaxVersion+1)
		refuses(t, m, r, seek(id), api.ErrClosed, 1)
		refuses(t, m, r, shut(id), api.ErrClosed, 1)
		tells(t, m, r, open(9), id+64, -1)
		refuses(t, m, r, seek(id), api.ErrClosed, 1)
	}
	tells(t, m, r, shut(0), 0, 2)
	tells(t, m, r, shut(2), 0, 2)
	words(t, m, r.Snaps, 1<<32, 5<<32+10, 1<<32)
	words(t, m, r.Slots, 0, 0)
}

// 15.3: of two that close one snapshot at one time one does; the other one is told ErrClosed, also when the place is open again meanwhile.
func TestClosedMeanwhile(t *testing.T) {
	for again := range 2 {
		m, r := begun(t, 1, 1, 0)
		tells(t, m, r, open(4), 0, 2)
		x := machine(m, r, shut(0))
		x.Step()
		tells(t, m, r, shut(0), 0, 2)
		want := 1 << 32
		if again == 1 {
			tells(t, m, r, open(4), 64, 2)
			want += 5
		}
		if !x.Step() || x.Out() != any(told{0, api.ErrClosed}) {
			t.Fatalf("Close: %v", x.Out())
		}
		holds(t, m, r.Snaps[0], want)
	}
}

// 15.3: a place whose generation is 2^30 - 1 isn't used any more; the last one that is used may be opened, found and closed.
func TestLastGeneration(t *testing.T) {
	m, r := begun(t, 1, 2, 0)
	m.Store(r.Snaps[0], (1<<30-2)<<32)
	m.Store(r.Snaps[1], (1<<30-3)<<32)
	id := (1<<30 - 2) * 64
	tells(t, m, r, open(8), id, 2)
	tells(t, m, r, seek(id), 8, 1)
	tells(t, m, r, least(0), 0, -1)
	tells(t, m, r, shut(id), 0, 2)
	words(t, m, r.Snaps, (1<<30-1)<<32, (1<<30-3)<<32)
	for _, n := range []int{id, id + 64} {
		refuses(t, m, r, seek(n), api.ErrClosed, 1)
		refuses(t, m, r, shut(n), api.ErrClosed, 1)
	}
	tells(t, m, r, open(8), (1<<30-3)*64+1, 3)
	tells(t, m, r, shut((1<<30-3)*64+1), 0, 2)
	tells(t, m, r, open(api.MaxVersion), (1<<30-2)*64+1, 3)
	tells(t, m, r, shut((1<<30-2)*64+1), 0, 2)
	refuses(t, m, r, open(8), api.ErrFull, 2)
	words(t, m, r.Snaps, (1<<30-1)<<32, (1<<30-1)<<32)
}

// wrong is a cell of a register that is put in place of the right one.
type wrong struct {
	h    int
	want api.Errno
}

// wrongs are handles that are stale, and one of a block.
func wrongs(t *testing.T, m *mem.Mem) []wrong {
	t.Helper()
	l := []wrong{{block(t, m, "b"), api.ErrKind}, {freed(t, m), api.ErrStale}}
	for _, h := range odd {
		l = append(l, wrong{h, api.ErrStale})
	}
	return l
}

// 15.1 to 15.3: of a slot, or a place, that is stale, or no word, each call that asks it ends with what memory tells; asks are as many as were done till then.
func TestWrongCells(t *testing.T) {
	m, right := begun(t, 3, 3, 10)
	reach(t, m, right, 9)
	m.Store(right.Snaps[0], 5)
	for _, x := range wrongs(t, m) {
		for i := range 3 {
			r := Reg{right.Top, slices.Clone(right.Slots), right.Snaps}
			r.Slots[i] = x.h
			refuses(t, m, r, enter(i), x.want, 1)
			refuses(t, m, r, hold(i, 4), x.want, 1)
			refuses(t, m, r, leave(i), x.want, 1)
			refuses(t, m, r, least(-1), x.want, 3+i+1)
			refuses(t, m, r, oldest(3), x.want, i+1)
			tells(t, m, r, least(i), 4, 3+2+3+2)
			tells(t, m, r, oldest(i), api.MaxVersion+1, 2)
			tells(t, m, r, leave((i+1)%3), 0, 1)
		}
		for i := range 3 {
			r := Reg{right.Top, right.Slots, slices.Clone(right.Snaps)}
			r.Snaps[i] = x.h
			refuses(t, m, r, seek(i), x.want, 1)
			refuses(t, m, r, shut(i), x.want, 1)
			refuses(t, m, r, least(0), x.want, 3+2+i+1)
			if i < 2 {
				refuses(t, m, r, open(3), x.want, i+1)
			}
		}
		words(t, m, right.Slots, 0, 0, 0)
		words(t, m, right.Snaps, 5, 0, 0)
	}
}

// 15.1, 15.2: of a top that is stale, or no word, or leads to no descriptor, or to one whose status is stale, or no word, Enter and Least end with what memory tells; the others don't ask it.
func TestWrongTop(t *testing.T) {
	m, r := begun(t, 2, 1, 60)
	var tops []wrong
	for _, x := range wrongs(t, m) {
		tops = append(tops, x, wrong{number(t, m, x.h), x.want}, wrong{number(t, m, block(t, m, desc.Desc{Version: 3, Status: x.h})), x.want})
	}
	tops = append(tops, wrong{number(t, m, r.Top), api.ErrKind}, wrong{block(t, m, desc.Desc{}), api.ErrKind})
	for _, x := range tops {
		r.Top = x.h
		refuses(t, m, r, enter(0), x.want, -1)
		refuses(t, m, r, least(0), x.want, -1)
		m.Store(r.Slots[0], 0)
		tells(t, m, r, hold(0, 5), 0, 1)
		tells(t, m, r, oldest(1), 5, 1)
		tells(t, m, r, leave(0), 0, 1)
		id, err, _ := does(m, r, open(6))
		if err != api.OK {
			t.Fatalf("Open: %d", err)
		}
		tells(t, m, r, seek(id), 6, 1)
		tells(t, m, r, shut(id), 0, 2)
	}
}

// 15.1 to 15.3: a call whose cell gets stale in its midst ends with that: Enter's second store, Open's and Close's swap, Least's second time.
func TestStaleInTheMidst(t *testing.T) {
	cases := []struct {
		f     asking
		steps int
		cell  func(r Reg) int
	}{
		{enter(1), 4, func(r Reg) int { return r.Slots[1] }},
		{enter(1), 1, func(r Reg) int { return r.Top }},
		{open(4), 2, func(r Reg) int { return r.Snaps[1] }},
		{shut(0), 1, func(r Reg) int { return r.Snaps[0] }},
		{least(1), 3 + 1 + 2, func(r Reg) int { return r.Slots[0] }},
	}
	for i, x := range cases {
		m, r := begun(t, 2, 2, 1)
		m.Store(r.Snaps[0], 5)
		y := machine(m, r, x.f)
		for range x.steps {
			y.Step()
		}
		m.Free(x.cell(r))
		if !y.Step() || y.Out() != any(told{0, api.ErrStale}) {
			t.Fatalf("case %d: %v", i, y.Out())
		}
	}
}

// 15.1 to 15.3: of a register of nothing each call answers what is said of no client, of no place, and of a top that is stale.
func TestNoRegister(t *testing.T) {
	m := fresh(t, 3)
	for _, f := range []asking{enter(0), hold(0, 0), leave(0)} {
		refuses(t, m, Reg{}, f, api.ErrArg, 0)
	}
	refuses(t, m, Reg{}, least(0), api.ErrStale, 1)
	tells(t, m, Reg{}, oldest(0), api.MaxVersion+1, 0)
	refuses(t, m, Reg{}, open(0), api.ErrFull, 0)
	refuses(t, m, Reg{}, seek(0), api.ErrClosed, 0)
	refuses(t, m, Reg{}, shut(0), api.ErrClosed, 0)
}

// 15.1 to 15.3: the lists of a register that is handed in stay what they are, spare room included.
func TestNobodyChangesIt(t *testing.T) {
	m, r := begun(t, 3, 2, 0)
	slots, snaps := append(slices.Clone(r.Slots), -7, -8), append(slices.Clone(r.Snaps), -7, -8)
	mine := Reg{r.Top, slices.Clone(slots)[:3], slices.Clone(snaps)[:2]}
	for _, f := range []asking{enter(0), enter(2), least(0), least(1), least(-1), oldest(0), oldest(2), hold(1, 5), open(4), open(4), open(4), seek(1), shut(1), shut(9), leave(0), leave(7)} {
		does(m, mine, f)
		if !slices.Equal(mine.Slots[:5], slots) || !slices.Equal(mine.Snaps[:4], snaps) {
			t.Fatalf("%v, was %v, %v", mine, slots, snaps)
		}
	}
}
