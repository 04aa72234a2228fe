package desc

import (
	"math"
	"slices"
	"testing"

	"rundle/api"
	"rundle/mem"
	"rundle/step"
)

// fresh is memory whose cells are all free.
func fresh(t *testing.T, cells int) *mem.Mem {
	t.Helper()
	m, err := mem.New(cells)
	if err != api.OK {
		t.Fatalf("%d cells: %d", cells, err)
	}
	return m
}

// number lets a cell hold a word.
func number(t *testing.T, m *mem.Mem, n int) int {
	t.Helper()
	h, err := m.AllocWord(n)
	if err != api.OK {
		t.Fatalf("AllocWord(%d): %d", n, err)
	}
	return h
}

// block lets a cell hold a block.
func block(t *testing.T, m *mem.Mem, b any) int {
	t.Helper()
	h, err := m.Alloc(b)
	if err != api.OK {
		t.Fatalf("Alloc(%v): %d", b, err)
	}
	return h
}

// freed is a handle of what was freed, whose cell holds another word meanwhile.
func freed(t *testing.T, m *mem.Mem) int {
	t.Helper()
	h := number(t, m, 0)
	m.Free(h)
	number(t, m, 1)
	return h
}

// holds holds the word of a cell against what it should be.
func holds(t *testing.T, m *mem.Mem, h, want int) {
	t.Helper()
	if n, err := m.Word(h); n != want || err != api.OK {
		t.Fatalf("the word of %d: %d, %d, want %d", h, n, err, want)
	}
}

// call does something with a port of memory; how often it was asked.
func call(m *mem.Mem, f func(p *step.Port)) int {
	before := m.Count()
	step.Do(m, func(p *step.Port) any {
		f(p)
		return nil
	})
	return m.Count() - before
}

// begun is memory with a top, and so many cells more.
func begun(t *testing.T, more int) (*mem.Mem, int) {
	t.Helper()
	m := fresh(t, 3+more)
	var top int
	var err api.Errno
	call(m, func(p *step.Port) { top, err = Init(p) })
	if err != api.OK {
		t.Fatalf("Init: %d", err)
	}
	return m, top
}

// made is a descriptor's handle.
func made(t *testing.T, m *mem.Mem, version, before int, swaps ...Swap) int {
	t.Helper()
	var h int
	var err api.Errno
	if n := call(m, func(p *step.Port) { h, err = Make(p, version, before, swaps) }); err != api.OK || n != 2 {
		t.Fatalf("Make(%d, %d, %v): %d, %d asks", version, before, swaps, err, n)
	}
	return h
}

// loaded is the descriptor of a handle.
func loaded(t *testing.T, m *mem.Mem, h int) Desc {
	t.Helper()
	var d Desc
	var err api.Errno
	if n := call(m, func(p *step.Port) { d, err = Load(p, h) }); err != api.OK || n != 1 {
		t.Fatalf("Load(%d): %d, %d asks", h, err, n)
	}
	return d
}

// publish publishes a descriptor from the one that is the last one.
func publish(t *testing.T, m *mem.Mem, top, h int) {
	t.Helper()
	old, err := m.Word(top)
	if err != api.OK {
		t.Fatalf("top: %d", err)
	}
	published(t, m, top, old, h, true)
}

// published holds what Publish answers against what it should be.
func published(t *testing.T, m *mem.Mem, top, old, h int, want bool) {
	t.Helper()
	var ok bool
	var err api.Errno
	if n := call(m, func(p *step.Port) { ok, err = Publish(p, top, old, h) }); ok != want || err != api.OK || n != 1 {
		t.Fatalf("Publish(%d, %d, %d): %v, %d, %d asks, want %v", top, old, h, ok, err, n, want)
	}
}

// helped holds what Help answers, and how often it asks, against what it should be.
func helped(t *testing.T, m *mem.Mem, d Desc, asks int, want api.Errno) {
	t.Helper()
	var err api.Errno
	if n := call(m, func(p *step.Port) { err = Help(p, d) }); err != want || n != asks {
		t.Fatalf("Help(%v): %d, %d asks, want %d, %d", d, err, n, want, asks)
	}
}

// same tells whether two descriptors are the same.
func same(a, b Desc) bool {
	return a.Version == b.Version && a.Before == b.Before && a.Status == b.Status && slices.Equal(a.Swaps, b.Swaps)
}

// stands holds what Latest and Version answer, with three asks each, against what they should be.
func stands(t *testing.T, m *mem.Mem, top, h int, d Desc, is bool) {
	t.Helper()
	var gotH, version int
	var gotD Desc
	var gotIs bool
	var err api.Errno
	if n := call(m, func(p *step.Port) { gotH, gotD, gotIs, err = Latest(p, top) }); err != api.OK || n != 3 {
		t.Fatalf("Latest: %d, %d asks", err, n)
	}
	if gotH != h || !same(gotD, d) || gotIs != is {
		t.Fatalf("Latest: %d, %v, %v, want %d, %v, %v", gotH, gotD, gotIs, h, d, is)
	}
	want := d.Before
	if is {
		want = d.Version
	}
	if n := call(m, func(p *step.Port) { version, err = Version(p, top) }); version != want || err != api.OK || n != 3 {
		t.Fatalf("Version: %d, %d, %d asks, want %d", version, err, n, want)
	}
}

// refused holds what Latest and Version answer beside an error, and how often they ask, against what they should.
func refused(t *testing.T, m *mem.Mem, top, asks int, want api.Errno) {
	t.Helper()
	h, d, is, err := 1, Desc{Version: 1}, true, api.OK
	if n := call(m, func(p *step.Port) { h, d, is, err = Latest(p, top) }); h != 0 || !same(d, Desc{}) || is || err != want || n != asks {
		t.Fatalf("Latest(%d): %d, %v, %v, %d, %d asks, want %d, %d asks", top, h, d, is, err, n, want, asks)
	}
	version := 1
	if n := call(m, func(p *step.Port) { version, err = Version(p, top) }); version != 0 || err != want || n != asks {
		t.Fatalf("Version(%d): %d, %d, %d asks, want %d, %d asks", top, version, err, n, want, asks)
	}
}

// room fills memory up to so many free cells.
func room(t *testing.T, m *mem.Mem, left int) {
	t.Helper()
	for m.Live() < m.Cells()-left {
		number(t, m, 70)
	}
}

// odd are numbers that are handles of nothing in memory of few cells that are of their first generations.
var odd = []int{0, -1, 1000, 65536, 65537 + 65536*16000, 1 << 30, 1 << 40, math.MinInt, math.MaxInt}

// 14.1: Init: a descriptor of version 0, before 0, without swaps, that is done; its status; a top whose word is it.
func TestInit(t *testing.T) {
	for _, more := range []int{0, 1, 7} {
		m := fresh(t, 3+more)
		room(t, m, 3)
		var top int
		var err api.Errno
		if n := call(m, func(p *step.Port) { top, err = Init(p) }); err != api.OK || n != 3 || m.Live() != 3+more {
			t.Fatalf("Init: %d, %d asks, %d cells live", err, n, m.Live())
		}
		h, err := m.Word(top)
		if err != api.OK {
			t.Fatalf("the top: %d", err)
		}
		d := loaded(t, m, h)
		if d.Version != 0 || d.Before != 0 || len(d.Swaps) != 0 {
			t.Fatalf("the first descriptor: %v", d)
		}
		holds(t, m, d.Status, 1)
		if d.Status == top || d.Status == h || top == h {
			t.Fatalf("cells: top %d, descriptor %d, status %d", top, h, d.Status)
		}
		stands(t, m, top, h, d, true)
		for i := range more {
			holds(t, m, i+1, 70)
		}
	}
}

// 14.1: two Inits of one memory know nothing of each other.
func TestInitTwice(t *testing.T) {
	m, top := begun(t, 6)
	h, _ := m.Word(top)
	first := loaded(t, m, h)
	var other int
	call(m, func(p *step.Port) { other, _ = Init(p) })
	next := made(t, m, 1, 0)
	publish(t, m, other, next)
	stands(t, m, top, h, first, true)
	stands(t, m, other, next, loaded(t, m, next), false)
}

// 14.1: Init over memory of 2, 1 and 0 cells that are left: ErrFull, and as many cells live as before it.
func TestInitFull(t *testing.T) {
	for left := range 3 {
		for _, others := range []int{0, 1, 5} {
			if left+others == 0 {
				continue
			}
			m := fresh(t, left+others)
			room(t, m, left)
			top, err := 1, api.OK
			call(m, func(p *step.Port) { top, err = Init(p) })
			if top != 0 || err != api.ErrFull || m.Live() != others || m.Stale() != 0 {
				t.Fatalf("Init over %d cells: %d, %d, %d cells live, want %d", left, top, err, m.Live(), others)
			}
			for i := range others {
				holds(t, m, i+1, 70)
			}
			room(t, m, 0)
		}
	}
}

// lists are swaps: none, one, many.
func lists() [][]Swap {
	many := make([]Swap, 1000)
	for i := range many {
		many[i] = Swap{i, -i, i * i}
	}
	return [][]Swap{nil, {}, {{1, 2, 3}}, {{}}, {{1, 5, 6}, {1, 5, 6}, {1, 6, 7}, {2, 0, 0}}, {{math.MinInt, math.MaxInt, -1}, {0, 0, math.MinInt}}, many}
}

// 14.1, 14.2: Make: a descriptor of the version, the version before and the swaps that were given, which is pending; Load answers it with one ask.
func TestMake(t *testing.T) {
	for _, l := range lists() {
		for _, v := range [][2]int{{3, 2}, {1, 0}, {0, 0}, {api.MaxVersion, api.MaxVersion - 1}, {7, 900}, {math.MinInt, math.MaxInt}} {
			m := fresh(t, 9)
			room(t, m, 2)
			was := slices.Clone(l)
			h := made(t, m, v[0], v[1], l...)
			d := loaded(t, m, h)
			if !same(d, Desc{v[0], v[1], d.Status, was}) || !slices.Equal(l, was) {
				t.Fatalf("Make(%d, %d, %v): %v", v[0], v[1], was, d)
			}
			holds(t, m, d.Status, 0)
			if d.Status == h || m.Live() != 9 {
				t.Fatalf("descriptor %d, status %d, %d cells live", h, d.Status, m.Live())
			}
			if again := loaded(t, m, h); !same(again, d) {
				t.Fatalf("Load: %v, then %v", d, again)
			}
		}
	}
}

// 14.1: a descriptor that is made isn't published, and makes no swap.
func TestMakeAlone(t *testing.T) {
	m, top := begun(t, 3)
	h, _ := m.Word(top)
	d := loaded(t, m, h)
	cell := number(t, m, 5)
	made(t, m, 9, 0, Swap{cell, 5, 6})
	stands(t, m, top, h, d, true)
	holds(t, m, cell, 5)
}

// 14.1: Make over 1 and 0 cells that are left: ErrFull, and as many cells live as before it.
func TestMakeFull(t *testing.T) {
	for left := range 2 {
		for _, l := range lists() {
			m := fresh(t, 5)
			room(t, m, left)
			h, err := 1, api.OK
			call(m, func(p *step.Port) { h, err = Make(p, 3, 2, l) })
			if h != 0 || err != api.ErrFull || m.Live() != 5-left || m.Stale() != 0 {
				t.Fatalf("Make over %d cells: %d, %d, %d cells live", left, h, err, m.Live())
			}
			for i := range 5 - left {
				holds(t, m, i+1, 70)
			}
			room(t, m, 0)
		}
	}
}

// 14.1: Init and Make find memory full in the midst, when others take its cells meanwhile: what they had is freed again.
func TestFullInTheMidst(t *testing.T) {
	calls := map[string]func(p *step.Port) (int, api.Errno){
		"Init": Init,
		"Make": func(p *step.Port) (int, api.Errno) { return Make(p, 1, 0, []Swap{{1, 70, 71}}) },
	}
	for name, f := range calls {
		for steps := range 3 {
			if name == "Make" && steps == 2 {
				continue
			}
			m := fresh(t, 8)
			x := step.New(m, func(p *step.Port) any {
				h, err := f(p)
				return [2]int{h, int(err)}
			})
			for range steps {
				x.Step()
			}
			room(t, m, 0)
			for range 20 {
				x.Step()
			}
			if x.Out() != any([2]int{0, int(api.ErrFull)}) || m.Live() != 8-steps || m.Stale() != 0 {
				t.Fatalf("%s, full behind %d steps: %v, %d cells live", name, steps, x.Out(), m.Live())
			}
		}
	}
}

// 14.1, 14.2: what is handed in isn't kept, and isn't changed; what is handed out is new: a descriptor stays what it is.
func TestNobodyChangesIt(t *testing.T) {
	m, top := begun(t, 2)
	roomy := []Swap{{1, 2, 3}, {4, 5, 6}, {7, 8, 9}}
	want := []Swap{{1, 2, 3}, {4, 5, 6}}
	h := made(t, m, 1, 0, roomy[:2]...)
	if roomy[2] != (Swap{7, 8, 9}) {
		t.Fatalf("spare room: %v", roomy)
	}
	publish(t, m, top, h)
	roomy[0], roomy[1] = Swap{}, Swap{}
	for range 3 {
		d := loaded(t, m, h)
		if !slices.Equal(d.Swaps, want) {
			t.Fatalf("Load: %v", d.Swaps)
		}
		d.Swaps[0] = Swap{}
		_ = append(d.Swaps[:1], Swap{})
		call(m, func(p *step.Port) { _, d, _, _ = Latest(p, top) })
		if !slices.Equal(d.Swaps, want) {
			t.Fatalf("Latest: %v", d.Swaps)
		}
		d.Swaps[1] = Swap{}
		_ = append(d.Swaps, Swap{})
	}
}

// 14.2: Load of a word, and of a block that is no descriptor: ErrKind.
func TestLoadKind(t *testing.T) {
	type other Desc
	m := fresh(t, 20)
	cells := []int{number(t, m, 0), number(t, m, 1), number(t, m, math.MinInt)}
	for _, b := range []any{"", "a", 7, api.ErrKind, Swap{1, 2, 3}, []Swap{}, &Desc{Version: 1}, []Desc{{}}, other{}, struct {
		Version, Before int
		Status          int
		Swaps           []Swap
	}{}, func() {}} {
		cells = append(cells, block(t, m, b))
	}
	for _, h := range cells {
		d, err := Desc{Version: 1}, api.OK
		if n := call(m, func(p *step.Port) { d, err = Load(p, h) }); !same(d, Desc{}) || err != api.ErrKind || n != 1 {
			t.Fatalf("Load(%d): %v, %d, %d asks", h, d, err, n)
		}
	}
}

// 14.2: Load of 0, of a handle of what was freed, and of whatever number: what memory tells of it.
func TestLoadStale(t *testing.T) {
	m, _ := begun(t, 4)
	gone := made(t, m, 1, 0)
	call(m, func(p *step.Port) { Undo(p, gone) })
	for _, h := range append([]int{gone, freed(t, m)}, odd...) {
		d, err := Desc{Version: 1}, api.OK
		if n := call(m, func(p *step.Port) { d, err = Load(p, h) }); !same(d, Desc{}) || err != api.ErrStale || n != 1 {
			t.Fatalf("Load(%d): %v, %d, %d asks", h, d, err, n)
		}
	}
}

// 14.2: Latest and Version of a descriptor that is pending, and of one that is done; the version of one that is pending is the one before.
func TestLatest(t *testing.T) {
	for _, v := range [][2]int{{3, 2}, {9, 2}, {2, 2}, {0, 5}, {api.MaxVersion, 0}} {
		for _, l := range lists() {
			m, top := begun(t, 2)
			h := made(t, m, v[0], v[1], l...)
			publish(t, m, top, h)
			d := loaded(t, m, h)
			stands(t, m, top, h, d, false)
			m.Store(d.Status, 1)
			stands(t, m, top, h, d, true)
			for _, n := range []int{2, -1, math.MaxInt, 0} {
				m.Store(d.Status, n)
				stands(t, m, top, h, d, false)
			}
		}
	}
}

// 14.2: Latest and Version end with the error that memory tells: of a top that is stale, or a block; whose word is no handle of a descriptor; whose descriptor's status is stale, or no word.
func TestLatestErrors(t *testing.T) {
	m := fresh(t, 40)
	text := block(t, m, "b")
	stale := freed(t, m)
	refused(t, m, text, 1, api.ErrKind)
	refused(t, m, block(t, m, Desc{}), 1, api.ErrKind)
	refused(t, m, stale, 1, api.ErrStale)
	for _, h := range odd {
		refused(t, m, h, 1, api.ErrStale)
		refused(t, m, number(t, m, h), 2, api.ErrStale)
	}
	refused(t, m, number(t, m, stale), 2, api.ErrStale)
	refused(t, m, number(t, m, text), 2, api.ErrKind)
	refused(t, m, number(t, m, number(t, m, 1)), 2, api.ErrKind)

	h := made(t, m, 3, 2, Swap{1, 2, 3})
	top, d := number(t, m, h), loaded(t, m, h)
	stands(t, m, top, h, d, false)
	m.Free(d.Status)
	refused(t, m, top, 3, api.ErrStale)
	number(t, m, 1)
	refused(t, m, top, 3, api.ErrStale)
	refused(t, m, number(t, m, block(t, m, Desc{Version: 4, Before: 3, Status: text})), 3, api.ErrKind)
}

// 14.3: Publish: whether the top's word was old; then it is the new one, and else nothing is changed.
func TestPublish(t *testing.T) {
	m, top := begun(t, 5)
	first, _ := m.Word(top)
	h, other := made(t, m, 1, 0), made(t, m, 2, 1)
	live := m.Live()
	published(t, m, top, h, other, false)
	published(t, m, top, 0, other, false)
	holds(t, m, top, first)
	published(t, m, top, first, h, true)
	holds(t, m, top, h)
	published(t, m, top, first, other, false)
	published(t, m, top, other, first, false)
	holds(t, m, top, h)
	stands(t, m, top, h, loaded(t, m, h), false)
	published(t, m, top, h, h, true)
	holds(t, m, top, h)
	published(t, m, top, h, other, true)
	holds(t, m, top, other)
	if m.Live() != live {
		t.Fatalf("%d cells live, want %d", m.Live(), live)
	}
}

// 14.3: Publish at a top that is stale, or no word, ends with what memory tells.
func TestPublishErrors(t *testing.T) {
	m, top := begun(t, 5)
	first, _ := m.Word(top)
	h := made(t, m, 1, 0)
	tops := map[int]api.Errno{h: api.ErrKind, first: api.ErrKind, block(t, m, "b"): api.ErrKind, freed(t, m): api.ErrStale}
	for _, n := range odd {
		tops[n] = api.ErrStale
	}
	for at, want := range tops {
		ok, err := true, api.OK
		if n := call(m, func(p *step.Port) { ok, err = Publish(p, at, first, h) }); ok || err != want || n != 1 {
			t.Fatalf("Publish at %d: %v, %d, %d asks, want %d", at, ok, err, n, want)
		}
	}
	holds(t, m, top, first)
}

// 14.3: Help makes the swaps one behind the other; those whose cell holds another word are passed over; and its status is 1 then. Behind another Help the words are those of again: they are others only where a swap is made of a word that its cell didn't hold yet.
func TestHelp(t *testing.T) {
	for _, c := range []struct {
		words []int
		swaps []Swap
		want  []int
		again []int
	}{
		{[]int{5, 6}, nil, []int{5, 6}, []int{5, 6}},
		{[]int{5, 6}, []Swap{{0, 5, 7}}, []int{7, 6}, []int{7, 6}},
		{[]int{5, 6}, []Swap{{1, 6, 5}, {0, 5, 6}}, []int{6, 5}, []int{6, 5}},
		{[]int{5, 6}, []Swap{{0, 6, 7}}, []int{5, 6}, []int{5, 6}},
		{[]int{5, 6}, []Swap{{0, 6, 7}, {1, 6, 8}}, []int{5, 8}, []int{5, 8}},
		{[]int{5, 6}, []Swap{{1, 6, 8}, {0, 6, 7}}, []int{5, 8}, []int{5, 8}},
		{[]int{5, 6}, []Swap{{0, 5, 7}, {0, 7, 8}, {0, 8, 9}}, []int{9, 6}, []int{9, 6}},
		{[]int{5, 6}, []Swap{{0, 7, 8}, {0, 5, 7}}, []int{7, 6}, []int{8, 6}},
		{[]int{5, 6}, []Swap{{0, 5, 7}, {0, 5, 8}}, []int{7, 6}, []int{7, 6}},
		{[]int{5, 6}, []Swap{{0, 5, 5}, {1, 6, 0}}, []int{5, 0}, []int{5, 0}},
		{[]int{0, 0}, []Swap{{0, 0, math.MinInt}, {1, 0, math.MaxInt}}, []int{math.MinInt, math.MaxInt}, []int{math.MinInt, math.MaxInt}},
	} {
		m, top := begun(t, 4)
		cells := []int{number(t, m, c.words[0]), number(t, m, c.words[1])}
		swaps := slices.Clone(c.swaps)
		for i := range swaps {
			swaps[i].Cell = cells[swaps[i].Cell]
		}
		h := made(t, m, 1, 0, swaps...)
		publish(t, m, top, h)
		d := loaded(t, m, h)
		helped(t, m, d, len(swaps)+1, api.OK)
		if !slices.Equal(d.Swaps, swaps) {
			t.Fatalf("Help changed what it was given: %v, want %v", d.Swaps, swaps)
		}
		for _, want := range [][]int{c.want, c.again, c.again} {
			holds(t, m, cells[0], want[0])
			holds(t, m, cells[1], want[1])
			holds(t, m, d.Status, 1)
			stands(t, m, top, h, d, true)
			helped(t, m, d, len(swaps)+1, api.OK)
		}
	}
}

// 14.3: Help of many swaps asks once for each of them, and once more, also where all are passed over; its status, which is another word than 0, stays.
func TestHelpMany(t *testing.T) {
	m := fresh(t, 1100)
	var swaps []Swap
	for i := range 1000 {
		swaps = append(swaps, Swap{number(t, m, i), i, i + 1000})
	}
	d := loaded(t, m, made(t, m, 1, 0, swaps...))
	helped(t, m, d, 1001, api.OK)
	for range 2 {
		for i, s := range swaps {
			holds(t, m, s.Cell, i+1000)
		}
		holds(t, m, d.Status, 1)
		helped(t, m, d, 1001, api.OK)
	}
	m.Store(d.Status, 2)
	helped(t, m, d, 1001, api.OK)
	holds(t, m, d.Status, 2)
}

// 14.3: Help of a descriptor that is done already changes nothing, also where its cells hold later words.
func TestHelpLate(t *testing.T) {
	m, top := begun(t, 6)
	cell, other := number(t, m, 5), number(t, m, 6)
	first := loaded(t, m, made(t, m, 1, 0, Swap{cell, 5, 15}, Swap{other, 6, 16}))
	helped(t, m, first, 3, api.OK)
	h := made(t, m, 2, 1, Swap{cell, 15, 25})
	publish(t, m, top, h)
	next := loaded(t, m, h)
	helped(t, m, first, 3, api.OK)
	holds(t, m, cell, 15)
	stands(t, m, top, h, next, false)
	helped(t, m, next, 2, api.OK)
	helped(t, m, first, 3, api.OK)
	holds(t, m, cell, 25)
	holds(t, m, other, 16)
	stands(t, m, top, h, next, true)
}

// 14.3: Help whose swap names a cell that is stale, or no word, ends with what memory tells; what is behind it isn't done.
func TestHelpErrors(t *testing.T) {
	for place := range 3 {
		for _, kind := range []bool{true, false} {
			m := fresh(t, 8)
			cells := []int{number(t, m, 5), number(t, m, 5), number(t, m, 5)}
			var swaps []Swap
			for _, cell := range cells {
				swaps = append(swaps, Swap{cell, 5, 6})
			}
			want := api.ErrStale
			swaps[place].Cell = freed(t, m)
			if kind {
				want = api.ErrKind
				swaps[place].Cell = block(t, m, "b")
			}
			d := loaded(t, m, made(t, m, 1, 0, swaps...))
			helped(t, m, d, place+1, want)
			for i, cell := range cells {
				n := 5
				if i < place {
					n = 6
				}
				holds(t, m, cell, n)
			}
			holds(t, m, d.Status, 0)
		}
	}
}

// 14.3: Help whose status is stale, or no word, ends with what memory tells.
func TestHelpStatus(t *testing.T) {
	m := fresh(t, 12)
	cell, text, stale := number(t, m, 5), block(t, m, "b"), freed(t, m)
	helped(t, m, Desc{Status: text}, 1, api.ErrKind)
	helped(t, m, Desc{}, 1, api.ErrStale)
	helped(t, m, Desc{Version: 1, Status: stale, Swaps: []Swap{{cell, 5, 6}}}, 2, api.ErrStale)
	holds(t, m, cell, 6)
	for _, n := range odd {
		helped(t, m, Desc{Status: n, Swaps: []Swap{{cell, 5, 6}}}, 2, api.ErrStale)
		helped(t, m, Desc{Status: cell, Swaps: []Swap{{n, 5, 6}}}, 1, api.ErrStale)
	}
	holds(t, m, cell, 6)
}

// 14.4: Undo: the descriptor's two cells are freed, and their handles are stale; all others stay.
func TestUndo(t *testing.T) {
	for _, l := range lists() {
		for _, status := range []int{0, 1} {
			m, top := begun(t, 3)
			cell := number(t, m, 5)
			old, _ := m.Word(top)
			h := made(t, m, 1, 0, l...)
			d := loaded(t, m, h)
			m.Store(d.Status, status)
			err := api.ErrNone
			call(m, func(p *step.Port) { err = Undo(p, h) })
			if err != api.OK || m.Live() != 4 || m.Stale() != 0 {
				t.Fatalf("Undo: %d, %d cells live", err, m.Live())
			}
			if _, err := m.Load(h); err != api.ErrStale {
				t.Fatalf("the descriptor: %d", err)
			}
			if _, err := m.Word(d.Status); err != api.ErrStale {
				t.Fatalf("its status: %d", err)
			}
			holds(t, m, cell, 5)
			stands(t, m, top, old, loaded(t, m, old), true)
			room(t, m, 0)
			call(m, func(p *step.Port) { err = Undo(p, h) })
			if err != api.ErrStale || m.Live() != 6 {
				t.Fatalf("Undo once more: %d, %d cells live", err, m.Live())
			}
		}
	}
}

// reap frees whatever is retired with a stamp that is less; how many cells.
func reap(m *mem.Mem, below int) int {
	n := 0
	for place := range m.Cells() {
		if ok, _ := m.Reap(place, below); ok {
			n++
		}
	}
	return n
}

// 14.4: Drop: the descriptor's two cells are retired with that stamp: they are held as before, till they are reaped by one that is greater.
func TestDrop(t *testing.T) {
	for _, stamp := range []int{0, 1, 7, -3, api.MaxVersion, math.MinInt, math.MaxInt - 1, math.MaxInt} {
		m, top := begun(t, 3)
		number(t, m, 5)
		h := made(t, m, 1, 0, Swap{1, 2, 3})
		publish(t, m, top, h)
		d := loaded(t, m, h)
		err := api.ErrNone
		call(m, func(p *step.Port) { err = Drop(p, h, stamp) })
		if err != api.OK || m.Live() != 6 {
			t.Fatalf("Drop: %d, %d cells live", err, m.Live())
		}
		stands(t, m, top, h, d, false)
		for _, below := range []int{math.MinInt, max(stamp, math.MinInt+1) - 1, stamp} {
			if n := reap(m, below); n != 0 {
				t.Fatalf("stamp %d: %d cells reaped below %d", stamp, n, below)
			}
		}
		if stamp == math.MaxInt {
			continue
		}
		stands(t, m, top, h, d, false)
		if n := reap(m, stamp+1); n != 2 || m.Live() != 4 {
			t.Fatalf("stamp %d: %d cells reaped below %d, %d live", stamp, n, stamp+1, m.Live())
		}
		if _, err := m.Load(h); err != api.ErrStale {
			t.Fatalf("the descriptor: %d", err)
		}
		if _, err := m.Word(d.Status); err != api.ErrStale {
			t.Fatalf("its status: %d", err)
		}
		holds(t, m, top, h)
		refused(t, m, top, 2, api.ErrStale)
	}
}

// 14.4: Drop of what was dropped: the greatest stamp stays, as memory has it.
func TestDropTwice(t *testing.T) {
	for _, stamps := range [][2]int{{3, 7}, {7, 3}, {7, 7}} {
		m := fresh(t, 4)
		h := made(t, m, 1, 0)
		for _, stamp := range stamps {
			call(m, func(p *step.Port) { Drop(p, h, stamp) })
		}
		if n := reap(m, 7); n != 0 {
			t.Fatalf("%v: %d cells reaped below 7", stamps, n)
		}
		if n := reap(m, 8); n != 2 {
			t.Fatalf("%v: %d cells reaped below 8", stamps, n)
		}
	}
}

// 14.4: Undo and Drop of what is no descriptor, of a stale handle, and of a descriptor whose status is stale: what memory tells of it, or ErrKind; nothing is changed.
func TestUndoDropErrors(t *testing.T) {
	m := fresh(t, 30)
	h := made(t, m, 1, 0)
	m.Free(loaded(t, m, h).Status)
	gone := made(t, m, 2, 0)
	call(m, func(p *step.Port) { Undo(p, gone) })
	number(t, m, 5)
	handles := map[int]api.Errno{number(t, m, 5): api.ErrKind, block(t, m, "b"): api.ErrKind, block(t, m, &Desc{}): api.ErrKind, gone: api.ErrStale, freed(t, m): api.ErrStale, h: api.ErrStale}
	for _, n := range odd {
		handles[n] = api.ErrStale
	}
	live := m.Live()
	for at, want := range handles {
		err := api.OK
		call(m, func(p *step.Port) { err = Undo(p, at) })
		if err != want {
			t.Fatalf("Undo(%d): %d, want %d", at, err, want)
		}
		call(m, func(p *step.Port) { err = Drop(p, at, -5) })
		if err != want {
			t.Fatalf("Drop(%d): %d, want %d", at, err, want)
		}
		if m.Live() != live || reap(m, math.MaxInt) != 0 {
			t.Fatalf("Undo, Drop of %d: %d cells live, want %d", at, m.Live(), live)
		}
	}
}

// 14.4: Undo and Drop of a descriptor that others free in the midst end with what memory tells.
func TestUndoDropInTheMidst(t *testing.T) {
	for steps := range 3 {
		for name, f := range map[string]func(p *step.Port, h int) api.Errno{
			"Undo": Undo,
			"Drop": func(p *step.Port, h int) api.Errno { return Drop(p, h, 3) },
		} {
			m := fresh(t, 4)
			h := made(t, m, 1, 0)
			x := step.New(m, func(p *step.Port) any { return f(p, h) })
			for range steps {
				x.Step()
			}
			m.Free(h)
			for !x.Step() {
			}
			if x.Out() != any(api.ErrStale) {
				t.Fatalf("%s, freed behind %d steps: %v", name, steps, x.Out())
			}
		}
	}
}

// 14.4: of many who undo one descriptor at one time just one does, and what others hold meanwhile stays.
func TestOneUndoes(t *testing.T) {
	inOrders(t, func(t *testing.T, d *drawer, next func(many, done int) int) {
		m := fresh(t, 4)
		h := made(t, m, 1, 0)
		var l []*step.Machine
		for range 1 + d.below(6) {
			l = append(l, step.New(m, func(p *step.Port) any { return Undo(p, h) }))
		}
		cells := map[int]bool{}
		for done := range 9 * len(l) {
			l[next(len(l), done)].Step()
			if d.below(3) == 0 && m.Live() < 4 {
				cells[number(t, m, 7)] = true
			}
		}
		run(l, next)
		undid := 0
		for _, x := range l {
			if x.Out() == any(api.OK) {
				undid++
			} else if x.Out() != any(api.ErrStale) {
				t.Fatalf("Undo: %v", x.Out())
			}
		}
		if undid != 1 || m.Live() != len(cells) {
			t.Fatalf("%d undid it, %d cells live, want %d", undid, m.Live(), len(cells))
		}
		for h := range cells {
			holds(t, m, h, 7)
		}
	})
}

// 14.2, 14.3: the chapter's example: the version is that of the last one that is done.
func TestExample(t *testing.T) {
	m, top := begun(t, 2)
	first, _ := m.Word(top)
	stands(t, m, top, first, loaded(t, m, first), true)
	version := func() int {
		v, err := -1, api.OK
		call(m, func(p *step.Port) { v, err = Version(p, top) })
		if err != api.OK {
			t.Fatalf("Version: %d", err)
		}
		return v
	}
	if v := version(); v != 0 {
		t.Fatalf("behind Init: %d", v)
	}
	h := made(t, m, 3, 0)
	if v := version(); v != 0 {
		t.Fatalf("behind Make: %d", v)
	}
	publish(t, m, top, h)
	if v := version(); v != 0 {
		t.Fatalf("behind Publish: %d", v)
	}
	helped(t, m, loaded(t, m, h), 1, api.OK)
	if v := version(); v != 3 {
		t.Fatalf("behind Help: %d", v)
	}
}
