package mem

import (
	"math"
	"slices"
	"testing"

	"rundle/api"
)

// fresh is memory of so many cells, of which none was asked yet.
func fresh(t *testing.T, cells int) *Mem {
	t.Helper()
	m, err := New(cells)
	if m == nil || err != api.OK {
		t.Fatalf("New(%d): %v, %d", cells, m, err)
	}
	return m
}

// block lets memory hold a block, whose handle must be this one.
func block(t *testing.T, m *Mem, b any, want int) {
	t.Helper()
	if h, err := m.Alloc(b); h != want || err != api.OK {
		t.Fatalf("Alloc(%v) = %d, %d, want %d, OK", b, h, err, want)
	}
}

// number lets memory hold a word, whose handle must be this one.
func number(t *testing.T, m *Mem, n, want int) {
	t.Helper()
	if h, err := m.AllocWord(n); h != want || err != api.OK {
		t.Fatalf("AllocWord(%d) = %d, %d, want %d, OK", n, h, err, want)
	}
}

// free frees what must be there.
func free(t *testing.T, m *Mem, h int) {
	t.Helper()
	if err := m.Free(h); err != api.OK {
		t.Fatalf("Free(%d) = %d", h, err)
	}
}

// retire retires what must be there.
func retire(t *testing.T, m *Mem, h, stamp int) {
	t.Helper()
	if err := m.Retire(h, stamp); err != api.OK {
		t.Fatalf("Retire(%d, %d) = %d", h, stamp, err)
	}
}

// reap holds what Reap answers against what it ought to.
func reap(t *testing.T, m *Mem, place, below int, want bool, wantErr api.Errno) {
	t.Helper()
	if ok, err := m.Reap(place, below); ok != want || err != wantErr {
		t.Fatalf("Reap(%d, %d) = %v, %d, want %v, %d", place, below, ok, err, want, wantErr)
	}
}

// holds holds a word that is held against what it ought to be.
func holds(t *testing.T, m *Mem, h, want int) {
	t.Helper()
	if n, err := m.Word(h); n != want || err != api.OK {
		t.Fatalf("Word(%d) = %d, %d, want %d, OK", h, n, err, want)
	}
}

// holdsBlock holds a block that is held against what it ought to be.
func holdsBlock(t *testing.T, m *Mem, h int, want any) {
	t.Helper()
	if b, err := m.Load(h); b != want || err != api.OK {
		t.Fatalf("Load(%d) = %v, %d, want %v, OK", h, b, err, want)
	}
}

// stale wants each of the six calls to answer that a handle is stale, to count it, and to change nothing else.
func stale(t *testing.T, m *Mem, h int) {
	t.Helper()
	count, told, live := m.Count(), m.Stale(), m.Live()
	if b, err := m.Load(h); b != nil || err != api.ErrStale {
		t.Fatalf("Load(%d) = %v, %d, want nil, ErrStale", h, b, err)
	}
	if n, err := m.Word(h); n != 0 || err != api.ErrStale {
		t.Fatalf("Word(%d) = %d, %d, want 0, ErrStale", h, n, err)
	}
	if err := m.Store(h, 7); err != api.ErrStale {
		t.Fatalf("Store(%d, 7) = %d, want ErrStale", h, err)
	}
	if ok, err := m.Swap(h, 0, 7); ok || err != api.ErrStale {
		t.Fatalf("Swap(%d, 0, 7) = %v, %d, want false, ErrStale", h, ok, err)
	}
	if err := m.Retire(h, -5); err != api.ErrStale {
		t.Fatalf("Retire(%d, -5) = %d, want ErrStale", h, err)
	}
	if err := m.Free(h); err != api.ErrStale {
		t.Fatalf("Free(%d) = %d, want ErrStale", h, err)
	}
	if m.Count() != count+6 || m.Stale() != told+6 || m.Live() != live {
		t.Fatalf("of %d: Count %d, Stale %d, Live %d, want %d, %d, %d", h, m.Count(), m.Stale(), m.Live(), count+6, told+6, live)
	}
}

// 12.1: memory has 1 to 65535 cells, all of them free.
func TestNew(t *testing.T) {
	for _, cells := range []int{math.MinInt, math.MinInt + 1, -65536, -65535, -1, 0, 65536, 65537, 1 << 20, 1 << 32, 1<<32 + 1, 1 << 62, math.MaxInt - 1, math.MaxInt} {
		if m, err := New(cells); m != nil || err != api.ErrArg {
			t.Fatalf("New(%d) = %v, %d, want nil, ErrArg", cells, m, err)
		}
	}
	for _, cells := range []int{1, 2, 3, 63, 64, 65, 1000, 65534, 65535} {
		m := fresh(t, cells)
		if m.Cells() != cells || m.Live() != 0 || m.Count() != 0 || m.Stale() != 0 {
			t.Errorf("New(%d): Cells %d, Live %d, Count %d, Stale %d", cells, m.Cells(), m.Live(), m.Count(), m.Stale())
		}
		stale(t, m, 1)
		stale(t, m, cells)
	}
}

// 12.1: cells are taken in the order of their places, as many as there are; then there is no room, whichever of both calls asks for it.
func TestFull(t *testing.T) {
	for _, cells := range []int{1, 2, 3, 5, 63, 64, 65, 127, 128, 129, 200, 1023, 1024, 4095, 65534, 65535} {
		m := fresh(t, cells)
		for place := range cells {
			if place%3 == 1 {
				block(t, m, place, place+1)
			} else {
				number(t, m, -place, place+1)
			}
		}
		if h, err := m.Alloc("x"); h != 0 || err != api.ErrFull {
			t.Fatalf("%d cells: Alloc = %d, %d, want 0, ErrFull", cells, h, err)
		}
		if h, err := m.AllocWord(3); h != 0 || err != api.ErrFull {
			t.Fatalf("%d cells: AllocWord = %d, %d, want 0, ErrFull", cells, h, err)
		}
		if m.Live() != cells || m.Count() != cells+2 || m.Stale() != 0 {
			t.Fatalf("%d cells: Live %d, Count %d, Stale %d", cells, m.Live(), m.Count(), m.Stale())
		}
		for place := range cells {
			if place%3 == 1 {
				holdsBlock(t, m, place+1, place)
			} else {
				holds(t, m, place+1, -place)
			}
		}
		stale(t, m, cells+1)
	}
}

// 12.1: nil is no block, also while no cell is free; a pointer or a list that is nil is one.
func TestAllocNil(t *testing.T) {
	m := fresh(t, 3)
	for range 2 {
		if h, err := m.Alloc(nil); h != 0 || err != api.ErrKind {
			t.Fatalf("Alloc(nil) = %d, %d, want 0, ErrKind", h, err)
		}
	}
	if m.Live() != 0 || m.Count() != 2 || m.Stale() != 0 {
		t.Fatalf("Live %d, Count %d, Stale %d, want 0, 2, 0", m.Live(), m.Count(), m.Stale())
	}
	block(t, m, (*int)(nil), 1)
	holdsBlock(t, m, 1, (*int)(nil))
	block(t, m, []int(nil), 2)
	if b, err := m.Load(2); err != api.OK || b == nil {
		t.Fatalf("Load(2) = %v, %d", b, err)
	}
	number(t, m, 0, 3)
	if h, err := m.Alloc(nil); h != 0 || err != api.ErrKind {
		t.Fatalf("Alloc(nil) of full memory = %d, %d, want 0, ErrKind", h, err)
	}
	if m.Live() != 3 {
		t.Fatalf("Live %d, want 3", m.Live())
	}
}

// 12.1: the free cell of the least place is taken, also if it was freed; its handle is of the next generation.
func TestLeastPlace(t *testing.T) {
	m := fresh(t, 200)
	for place := range 200 {
		number(t, m, place, place+1)
	}
	freed := []int{199, 64, 63, 0, 128, 127, 65, 5, 130}
	for _, place := range freed {
		free(t, m, place+1)
	}
	if m.Live() != 191 {
		t.Fatalf("Live %d, want 191", m.Live())
	}
	slices.Sort(freed)
	for i, place := range freed {
		if i%2 == 0 {
			block(t, m, "b", place+1+65536)
		} else {
			number(t, m, 7, place+1+65536)
		}
	}
	if h, err := m.AllocWord(0); h != 0 || err != api.ErrFull {
		t.Fatalf("AllocWord = %d, %d, want 0, ErrFull", h, err)
	}
	free(t, m, 131+65536)
	number(t, m, 1, 131+2*65536)
	free(t, m, 4)
	free(t, m, 131+2*65536)
	number(t, m, 1, 4+65536)
	number(t, m, 1, 131+3*65536)
}

// 12.1: a freed cell of a lesser place is taken ahead of those that were never used.
func TestFreedFirst(t *testing.T) {
	m := fresh(t, 5)
	number(t, m, 1, 1)
	number(t, m, 2, 2)
	number(t, m, 3, 3)
	free(t, m, 2)
	free(t, m, 1)
	block(t, m, "a", 65537)
	block(t, m, "b", 65538)
	number(t, m, 4, 4)
	number(t, m, 5, 5)
	if h, err := m.Alloc("c"); h != 0 || err != api.ErrFull {
		t.Fatalf("Alloc = %d, %d, want 0, ErrFull", h, err)
	}
}

// wear uses the cell of the least place, and frees it, as often as it may be, and wants each handle to be another one.
func wear(t *testing.T, m *Mem) {
	t.Helper()
	for gen := range 16384 {
		h := gen*65536 + 1
		if gen%2 == 0 {
			number(t, m, gen, h)
		} else {
			block(t, m, gen, h)
		}
		if gen%3 == 0 {
			retire(t, m, h, gen)
			reap(t, m, 0, gen+1, true, api.OK)
		} else {
			free(t, m, h)
		}
	}
}

// 12.1, 12.5: a cell of generation 16383 that is freed is never used again.
func TestWornCell(t *testing.T) {
	for _, cells := range []int{1, 2, 100} {
		m := fresh(t, cells)
		wear(t, m)
		if m.Live() != 0 || m.Cells() != cells {
			t.Fatalf("Live %d, Cells %d, want 0, %d", m.Live(), m.Cells(), cells)
		}
		reap(t, m, 0, math.MaxInt, false, api.OK)
		for place := 1; place < cells; place++ {
			number(t, m, place, place+1)
		}
		for range 3 {
			if h, err := m.AllocWord(9); h != 0 || err != api.ErrFull {
				t.Fatalf("%d cells: AllocWord = %d, %d, want 0, ErrFull", cells, h, err)
			}
			if h, err := m.Alloc("b"); h != 0 || err != api.ErrFull {
				t.Fatalf("%d cells: Alloc = %d, %d, want 0, ErrFull", cells, h, err)
			}
			if h, err := m.Alloc(nil); h != 0 || err != api.ErrKind {
				t.Fatalf("%d cells: Alloc(nil) = %d, %d, want 0, ErrKind", cells, h, err)
			}
		}
		if m.Live() != cells-1 {
			t.Fatalf("Live %d, want %d", m.Live(), cells-1)
		}
		for _, h := range []int{1, 65537, 16383*65536 + 1, 16384*65536 + 1, 16385*65536 + 1} {
			stale(t, m, h)
		}
		if cells > 1 {
			free(t, m, 2)
			number(t, m, 1, 65538)
		}
	}
}

// 12.1: the last generation's cell is used as any other one, as long as it isn't freed.
func TestLastGeneration(t *testing.T) {
	m := fresh(t, 1)
	for gen := range 16383 {
		number(t, m, gen, gen*65536+1)
		free(t, m, gen*65536+1)
	}
	last := 16383*65536 + 1
	number(t, m, 5, last)
	holds(t, m, last, 5)
	stale(t, m, 16382*65536+1)
	retire(t, m, last, 3)
	reap(t, m, 0, 3, false, api.OK)
	if ok, err := m.Swap(last, 5, 6); !ok || err != api.OK {
		t.Fatalf("Swap = %v, %d", ok, err)
	}
	holds(t, m, last, 6)
	reap(t, m, 0, 4, true, api.OK)
	stale(t, m, last)
	if h, err := m.AllocWord(5); h != 0 || err != api.ErrFull {
		t.Fatalf("AllocWord = %d, %d, want 0, ErrFull", h, err)
	}
}

// pair is a block of several fields.
type pair struct {
	a int
	b string
}

// numeral is a number's type that a block may be of.
type numeral int

// 12.2: a block is what it was, of whatever type it is, and no block is a word, also if it is a number.
func TestBlocks(t *testing.T) {
	n := 5
	blocks := []any{
		5, 0, -1, math.MinInt, math.MaxInt, int64(5), int32(5), uint(5), uint8(5), numeral(5), uintptr(0),
		"", "5", "a text", 'r', true, false, 1.5, complex(1, 2),
		pair{3, "p"}, &pair{3, "p"}, &n, (*pair)(nil), [2]int{1, 2}, [0]int{}, struct{}{}, api.ErrStale, api.OK, api.Pair{Key: "k"},
	}
	m := fresh(t, len(blocks))
	for i, b := range blocks {
		block(t, m, b, i+1)
	}
	for i, b := range blocks {
		holdsBlock(t, m, i+1, b)
		wantKind(t, m, i+1)
		holdsBlock(t, m, i+1, b)
	}
	if m.Stale() != 0 || m.Live() != len(blocks) {
		t.Errorf("Stale %d, Live %d", m.Stale(), m.Live())
	}
}

// wantKind wants the three calls for words to answer that a cell holds none.
func wantKind(t *testing.T, m *Mem, h int) {
	t.Helper()
	if n, err := m.Word(h); n != 0 || err != api.ErrKind {
		t.Fatalf("Word(%d) = %d, %d, want 0, ErrKind", h, n, err)
	}
	if err := m.Store(h, 7); err != api.ErrKind {
		t.Fatalf("Store(%d, 7) = %d, want ErrKind", h, err)
	}
	for _, old := range []int{0, 5, 7} {
		if ok, err := m.Swap(h, old, 8); ok || err != api.ErrKind {
			t.Fatalf("Swap(%d, %d, 8) = %v, %d, want false, ErrKind", h, old, ok, err)
		}
	}
}

// 12.2: blocks that can't be held against each other are held, too, and handed out as they are.
func TestListsAsBlocks(t *testing.T) {
	m := fresh(t, 4)
	list := []int{1, 2, 3}
	block(t, m, list, 1)
	block(t, m, map[string]int{"a": 1}, 2)
	block(t, m, func() int { return 6 }, 3)
	block(t, m, []any{nil}, 4)
	for h := 1; h <= 4; h++ {
		wantKind(t, m, h)
		retire(t, m, h, h)
	}
	b, err := m.Load(1)
	got, ok := b.([]int)
	if err != api.OK || !ok || !slices.Equal(got, []int{1, 2, 3}) || &got[0] != &list[0] {
		t.Errorf("Load(1) = %v, %d", b, err)
	}
	b, err = m.Load(2)
	if kept, ok := b.(map[string]int); err != api.OK || !ok || len(kept) != 1 || kept["a"] != 1 {
		t.Errorf("Load(2) = %v, %d", b, err)
	}
	b, err = m.Load(3)
	if call, ok := b.(func() int); err != api.OK || !ok || call() != 6 {
		t.Errorf("Load(3): %d", err)
	}
	for place := range 4 {
		reap(t, m, place, 5, true, api.OK)
	}
}

// numbers are words of whatever size and sign.
var numbers = []int{math.MinInt, math.MinInt + 1, -1 << 62, -1 << 32, -65537, -257, -256, -2, -1, 0, 1, 2, 255, 256, 257, 65535, 65536, 65537, 1<<31 - 1, 1 << 31, 1<<32 + 1, 1 << 62, math.MaxInt - 1, math.MaxInt}

// 12.2: a word is what it was, whatever number it is, and is no block.
func TestWords(t *testing.T) {
	m := fresh(t, len(numbers))
	for i, n := range numbers {
		number(t, m, n, i+1)
	}
	for i, n := range numbers {
		holds(t, m, i+1, n)
		if b, err := m.Load(i + 1); b != nil || err != api.ErrKind {
			t.Fatalf("Load(%d) = %v, %d, want nil, ErrKind", i+1, b, err)
		}
		holds(t, m, i+1, n)
	}
	for i := range numbers {
		n := numbers[len(numbers)-1-i]
		if err := m.Store(i+1, n); err != api.OK {
			t.Fatalf("Store(%d, %d) = %d", i+1, n, err)
		}
	}
	for i := range numbers {
		holds(t, m, i+1, numbers[len(numbers)-1-i])
	}
	if m.Stale() != 0 || m.Live() != len(numbers) {
		t.Errorf("Stale %d, Live %d", m.Stale(), m.Live())
	}
}

// 12.2: Swap tells whether the old word is held, and lets the cell hold the new one then, and then alone; the same word may be both.
func TestSwap(t *testing.T) {
	m := fresh(t, 3)
	number(t, m, 100, 1)
	number(t, m, 200, 2)
	number(t, m, 300, 3)
	held := 200
	for _, n := range numbers {
		for _, old := range []int{n, n ^ 1, n ^ 1<<32, ^n, held} {
			want := old == held
			if ok, err := m.Swap(2, old, n); ok != want || err != api.OK {
				t.Fatalf("Swap(2, %d, %d) = %v, %d, want %v, OK", old, n, ok, err, want)
			}
			if want {
				held = n
			}
			holds(t, m, 2, held)
		}
		if held != n {
			t.Fatalf("%d is held, want %d", held, n)
		}
		if ok, err := m.Swap(2, n, n); !ok || err != api.OK {
			t.Fatalf("Swap(2, %d, %d) = %v, %d, want true, OK", n, n, ok, err)
		}
		holds(t, m, 2, n)
	}
	holds(t, m, 1, 100)
	holds(t, m, 3, 300)
}

// 12.2, 12.3, 12.4: of whatever isn't the handle of a cell that holds something, of its generation, each of the six calls answers that it is stale.
func TestStaleHandles(t *testing.T) {
	m := fresh(t, 4)
	number(t, m, 10, 1)
	number(t, m, 20, 2)
	free(t, m, 2)
	number(t, m, 21, 65538)
	block(t, m, "b", 3)
	retire(t, m, 3, 9)
	for _, h := range []int{
		0, -1, -2, -65536, -65537, -65538, math.MinInt, math.MinInt + 1, math.MaxInt, math.MaxInt - 1,
		65536, 131072, 16383 * 65536, 16384 * 65536, 16384*65536 + 1, 16384*65536 + 2, 1 << 31, 1<<31 + 1, 1<<32 + 1, 1<<32 + 65538, 1<<48 + 1, 1 << 62, 1<<62 + 1,
		4, 5, 6, 65535, 4 + 65536, 5 + 65536, 131071, 16383*65536 + 4, 16383*65536 + 5, 1073741823,
		1 + 65536, 3 + 65536, 1 + 2*65536, 1 + 16383*65536, 3 + 16383*65536,
		2, 2 + 2*65536, 2 + 16383*65536,
	} {
		stale(t, m, h)
	}
	holds(t, m, 1, 10)
	holds(t, m, 65538, 21)
	holdsBlock(t, m, 3, "b")
	if m.Live() != 3 || m.Cells() != 4 {
		t.Errorf("Live %d, Cells %d, want 3, 4", m.Live(), m.Cells())
	}
	reap(t, m, 0, math.MaxInt, false, api.OK)
	reap(t, m, 1, math.MaxInt, false, api.OK)
	reap(t, m, 2, 9, false, api.OK)
	reap(t, m, 2, 10, true, api.OK)
	number(t, m, 1, 3+65536)
	number(t, m, 1, 4)
}

// 12.3: what is freed isn't held any more, nor retired, and its cell may be used again.
func TestFree(t *testing.T) {
	m := fresh(t, 2)
	block(t, m, "a", 1)
	number(t, m, 2, 2)
	retire(t, m, 1, 3)
	free(t, m, 1)
	stale(t, m, 1)
	reap(t, m, 0, math.MaxInt, false, api.OK)
	holds(t, m, 2, 2)
	block(t, m, "b", 65537)
	reap(t, m, 0, math.MaxInt, false, api.OK)
	holdsBlock(t, m, 65537, "b")
	stale(t, m, 1)
	free(t, m, 2)
	free(t, m, 65537)
	stale(t, m, 65537)
	if m.Live() != 0 {
		t.Errorf("Live %d, want 0", m.Live())
	}
}

// 12.3: what is retired is retired with the greatest stamp that was told, in whatever order, also with stamps below 0.
func TestRetire(t *testing.T) {
	for _, c := range []struct {
		stamps []int
		most   int
	}{
		{[]int{5}, 5},
		{[]int{0}, 0},
		{[]int{-5}, -5},
		{[]int{5, 9}, 9},
		{[]int{9, 5}, 9},
		{[]int{5, 5}, 5},
		{[]int{5, 6}, 6},
		{[]int{6, 5}, 6},
		{[]int{0, -1}, 0},
		{[]int{-1, 0}, 0},
		{[]int{-7, -3}, -3},
		{[]int{-3, -7}, -3},
		{[]int{-3, -3}, -3},
		{[]int{1, 3, 2}, 3},
		{[]int{math.MaxInt - 1, math.MinInt}, math.MaxInt - 1},
		{[]int{math.MinInt + 1, math.MinInt}, math.MinInt + 1},
		{[]int{math.MinInt, math.MinInt + 1}, math.MinInt + 1},
		{[]int{math.MinInt, math.MaxInt - 1}, math.MaxInt - 1},
	} {
		m := fresh(t, 2)
		number(t, m, 1, 1)
		block(t, m, "b", 2)
		for _, stamp := range c.stamps {
			retire(t, m, 1, stamp)
			retire(t, m, 2, stamp)
			holds(t, m, 1, 1)
			holdsBlock(t, m, 2, "b")
		}
		for place := range 2 {
			reap(t, m, place, math.MinInt, false, api.OK)
			reap(t, m, place, c.most-1, false, api.OK)
			reap(t, m, place, c.most, false, api.OK)
			reap(t, m, place, c.most+1, true, api.OK)
			reap(t, m, place, c.most+1, false, api.OK)
		}
		if m.Live() != 0 {
			t.Errorf("of %v: Live %d, want 0", c.stamps, m.Live())
		}
	}
}

// 12.3: no stamp is less than the least number, and the greatest stamp is less than none.
func TestRetireEdges(t *testing.T) {
	m := fresh(t, 2)
	number(t, m, 1, 1)
	number(t, m, 2, 2)
	retire(t, m, 1, math.MinInt)
	retire(t, m, 2, math.MaxInt)
	reap(t, m, 0, math.MinInt, false, api.OK)
	reap(t, m, 1, math.MinInt, false, api.OK)
	reap(t, m, 1, math.MaxInt, false, api.OK)
	reap(t, m, 0, math.MinInt+1, true, api.OK)
	retire(t, m, 2, math.MinInt)
	reap(t, m, 1, math.MaxInt, false, api.OK)
	holds(t, m, 2, 2)
	stale(t, m, 1)
}

// 12.3: what is retired is held as before: it is loaded, changed and told as if it weren't, and stays retired.
func TestRetiredIsHeld(t *testing.T) {
	m := fresh(t, 3)
	number(t, m, 5, 1)
	block(t, m, "b", 2)
	retire(t, m, 1, 4)
	retire(t, m, 2, 4)
	if m.Live() != 2 {
		t.Fatalf("Live %d, want 2", m.Live())
	}
	holds(t, m, 1, 5)
	if err := m.Store(1, 6); err != api.OK {
		t.Fatalf("Store = %d", err)
	}
	if ok, err := m.Swap(1, 5, 8); ok || err != api.OK {
		t.Fatalf("Swap = %v, %d, want false", ok, err)
	}
	if ok, err := m.Swap(1, 6, 7); !ok || err != api.OK {
		t.Fatalf("Swap = %v, %d, want true", ok, err)
	}
	holds(t, m, 1, 7)
	holdsBlock(t, m, 2, "b")
	wantKind(t, m, 2)
	number(t, m, 0, 3)
	if h, err := m.AllocWord(0); h != 0 || err != api.ErrFull {
		t.Fatalf("AllocWord = %d, %d, want 0, ErrFull", h, err)
	}
	reap(t, m, 0, 4, false, api.OK)
	reap(t, m, 0, 5, true, api.OK)
	reap(t, m, 1, 5, true, api.OK)
	reap(t, m, 2, 5, false, api.OK)
	stale(t, m, 1)
	stale(t, m, 2)
	holds(t, m, 3, 0)
}

// 12.3: Reap looks at the cell of its place alone, and at places at which there is one alone.
func TestReap(t *testing.T) {
	m := fresh(t, 70)
	for place := range 70 {
		number(t, m, place, place+1)
		if place != 68 {
			retire(t, m, place+1, place)
		}
	}
	for _, place := range []int{math.MinInt, math.MinInt + 1, -65536, -70, -2, -1, 70, 71, 127, 128, 65535, 65536, 1 << 32, 1<<32 + 1, 1 << 62, math.MaxInt - 1, math.MaxInt} {
		for _, below := range []int{math.MinInt, -1, 0, 1, 100, math.MaxInt} {
			reap(t, m, place, below, false, api.ErrArg)
		}
	}
	if m.Live() != 70 || m.Stale() != 0 || m.Count() != 70+69+17*6 {
		t.Fatalf("Live %d, Stale %d, Count %d", m.Live(), m.Stale(), m.Count())
	}
	reap(t, m, 68, math.MaxInt, false, api.OK)
	reap(t, m, 69, 69, false, api.OK)
	reap(t, m, 69, 70, true, api.OK)
	reap(t, m, 69, math.MaxInt, false, api.OK)
	reap(t, m, 0, 0, false, api.OK)
	reap(t, m, 0, 1, true, api.OK)
	reap(t, m, 1, -1, false, api.OK)
	reap(t, m, 1, math.MaxInt, true, api.OK)
	for place := 2; place < 69; place++ {
		holds(t, m, place+1, place)
	}
	if m.Live() != 67 {
		t.Errorf("Live %d, want 67", m.Live())
	}
	number(t, m, 1, 65537)
	number(t, m, 2, 65538)
	number(t, m, 3, 70+65536)
	reap(t, m, 0, math.MaxInt, false, api.OK)
	reap(t, m, 69, math.MaxInt, false, api.OK)
	retire(t, m, 65537, 7)
	reap(t, m, 0, 7, false, api.OK)
	reap(t, m, 0, 8, true, api.OK)
}

// 12.3: what a cell holds that was freed and is used again isn't retired, however it was freed.
func TestUsedAgain(t *testing.T) {
	m := fresh(t, 1)
	number(t, m, 1, 1)
	retire(t, m, 1, -3)
	free(t, m, 1)
	block(t, m, "b", 65537)
	reap(t, m, 0, math.MaxInt, false, api.OK)
	retire(t, m, 65537, 8)
	reap(t, m, 0, 9, true, api.OK)
	number(t, m, 2, 2*65536+1)
	reap(t, m, 0, math.MaxInt, false, api.OK)
	retire(t, m, 2*65536+1, -9)
	reap(t, m, 0, -9, false, api.OK)
	reap(t, m, 0, -8, true, api.OK)
}

// 12.4: each of the nine calls is counted once, whatever it answers, and no other one; only what answers that a handle is stale is counted as that.
func TestCounts(t *testing.T) {
	m := fresh(t, 2)
	asks := []struct {
		name  string
		call  func() api.Errno
		want  api.Errno
		stale int
		live  int
	}{
		{"Alloc", func() api.Errno { _, err := m.Alloc("a"); return err }, api.OK, 0, 1},
		{"Alloc of nil", func() api.Errno { _, err := m.Alloc(nil); return err }, api.ErrKind, 0, 1},
		{"AllocWord", func() api.Errno { _, err := m.AllocWord(5); return err }, api.OK, 0, 2},
		{"Alloc, full", func() api.Errno { _, err := m.Alloc("a"); return err }, api.ErrFull, 0, 2},
		{"AllocWord, full", func() api.Errno { _, err := m.AllocWord(5); return err }, api.ErrFull, 0, 2},
		{"Alloc of nil, full", func() api.Errno { _, err := m.Alloc(nil); return err }, api.ErrKind, 0, 2},
		{"Load", func() api.Errno { _, err := m.Load(1); return err }, api.OK, 0, 2},
		{"Load of a word", func() api.Errno { _, err := m.Load(2); return err }, api.ErrKind, 0, 2},
		{"Load, stale", func() api.Errno { _, err := m.Load(3); return err }, api.ErrStale, 1, 2},
		{"Word", func() api.Errno { _, err := m.Word(2); return err }, api.OK, 1, 2},
		{"Word of a block", func() api.Errno { _, err := m.Word(1); return err }, api.ErrKind, 1, 2},
		{"Word, stale", func() api.Errno { _, err := m.Word(0); return err }, api.ErrStale, 2, 2},
		{"Store", func() api.Errno { return m.Store(2, 6) }, api.OK, 2, 2},
		{"Store of a block", func() api.Errno { return m.Store(1, 6) }, api.ErrKind, 2, 2},
		{"Store, stale", func() api.Errno { return m.Store(-1, 6) }, api.ErrStale, 3, 2},
		{"Swap", func() api.Errno { _, err := m.Swap(2, 6, 7); return err }, api.OK, 3, 2},
		{"Swap of another one", func() api.Errno { _, err := m.Swap(2, 6, 7); return err }, api.OK, 3, 2},
		{"Swap of a block", func() api.Errno { _, err := m.Swap(1, 6, 7); return err }, api.ErrKind, 3, 2},
		{"Swap, stale", func() api.Errno { _, err := m.Swap(65537, 6, 7); return err }, api.ErrStale, 4, 2},
		{"Retire", func() api.Errno { return m.Retire(2, 6) }, api.OK, 4, 2},
		{"Retire again", func() api.Errno { return m.Retire(2, 5) }, api.OK, 4, 2},
		{"Retire, stale", func() api.Errno { return m.Retire(65538, 6) }, api.ErrStale, 5, 2},
		{"Reap, not retired", func() api.Errno { _, err := m.Reap(0, 7); return err }, api.OK, 5, 2},
		{"Reap, no less", func() api.Errno { _, err := m.Reap(1, 6); return err }, api.OK, 5, 2},
		{"Reap of no place", func() api.Errno { _, err := m.Reap(2, 7); return err }, api.ErrArg, 5, 2},
		{"Reap", func() api.Errno { _, err := m.Reap(1, 7); return err }, api.OK, 5, 1},
		{"Reap, free", func() api.Errno { _, err := m.Reap(1, 7); return err }, api.OK, 5, 1},
		{"Free", func() api.Errno { return m.Free(1) }, api.OK, 5, 0},
		{"Free, stale", func() api.Errno { return m.Free(1) }, api.ErrStale, 6, 0},
	}
	for i, ask := range asks {
		if err := ask.call(); err != ask.want {
			t.Fatalf("%s = %d, want %d", ask.name, err, ask.want)
		}
		for range 2 {
			if m.Count() != i+1 || m.Stale() != ask.stale || m.Live() != ask.live || m.Cells() != 2 {
				t.Fatalf("behind %s: Count %d, Stale %d, Live %d, Cells %d, want %d, %d, %d, 2", ask.name, m.Count(), m.Stale(), m.Live(), m.Cells(), i+1, ask.stale, ask.live)
			}
		}
	}
}

// 12.5: a handle of what was freed is stale for ever, and no handle is told twice.
func TestNeverAgain(t *testing.T) {
	m := fresh(t, 3)
	told := map[int]bool{}
	for round := range 16384 {
		var now []int
		for n := range 3 {
			h, err := m.AllocWord(n)
			if err != api.OK || told[h] {
				t.Fatalf("AllocWord = %d, %d, told already: %v", h, err, told[h])
			}
			told[h] = true
			now = append(now, h)
		}
		if round < 100 || round%1000 == 0 || round == 16383 {
			for h := range told {
				if n, err := m.Word(h); slices.Contains(now, h) != (err == api.OK) || err != api.OK && (n != 0 || err != api.ErrStale) {
					t.Fatalf("round %d: Word(%d) = %d, %d", round, h, n, err)
				}
			}
		}
		for _, h := range now {
			free(t, m, h)
		}
	}
	if h, err := m.AllocWord(0); h != 0 || err != api.ErrFull || len(told) != 3*16384 {
		t.Fatalf("AllocWord = %d, %d; %d handles were told", h, err, len(told))
	}
	for h := range told {
		if err := m.Store(h, 1); err != api.ErrStale {
			t.Fatalf("Store(%d, 1) = %d, want ErrStale", h, err)
		}
	}
}

// Rule 6: two memories that went through the same are the same, and neither knows of the other.
func TestApart(t *testing.T) {
	m, other := fresh(t, 2), fresh(t, 3)
	number(t, m, 1, 1)
	stale(t, other, 1)
	block(t, other, "b", 1)
	holds(t, m, 1, 1)
	free(t, other, 1)
	holds(t, m, 1, 1)
	if m.Cells() != 2 || other.Cells() != 3 || m.Live() != 1 || other.Live() != 0 || m.Stale() != 0 || other.Stale() != 6 {
		t.Errorf("Live %d, %d, Stale %d, %d", m.Live(), other.Live(), m.Stale(), other.Stale())
	}
}

// Example 1 of the chapter.
func TestExamples(t *testing.T) {
	m := fresh(t, 1)
	number(t, m, 5, 1)
	free(t, m, 1)
	number(t, m, 6, 65537)
	holds(t, m, 65537, 6)
	stale(t, m, 1)
}
