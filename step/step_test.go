package step

import (
	"errors"
	"math"
	"slices"
	"testing"

	"rundle/api"
	"rundle/mem"
)

// fresh is memory of so many cells, of which none was asked yet.
func fresh(t *testing.T, cells int) *mem.Mem {
	t.Helper()
	m, err := mem.New(cells)
	if err != api.OK {
		t.Fatalf("mem.New(%d): %d", cells, err)
	}
	return m
}

// number lets memory hold a word, and answers its handle.
func number(t *testing.T, m *mem.Mem, n int) int {
	t.Helper()
	h, err := m.AllocWord(n)
	if err != api.OK {
		t.Fatalf("AllocWord(%d): %d", n, err)
	}
	return h
}

// holds holds the word of a cell against what it ought to be.
func holds(t *testing.T, m *mem.Mem, h, want int) {
	t.Helper()
	if n, err := m.Word(h); n != want || err != api.OK {
		t.Fatalf("Word(%d) = %d, %d, want %d, OK", h, n, err, want)
	}
}

// stands holds what a machine that hasn't ended tells against what it ought to.
func stands(t *testing.T, x *Machine, steps, noted int) {
	t.Helper()
	if x.Ended() || x.Out() != nil || x.Steps() != steps || x.Noted() != noted {
		t.Fatalf("Ended %v, Out %v, Steps %d, Noted %d, want false, nil, %d, %d", x.Ended(), x.Out(), x.Steps(), x.Noted(), steps, noted)
	}
}

// ended holds what a machine that has ended tells against what it ought to.
func ended(t *testing.T, x *Machine, out any, steps, noted int) {
	t.Helper()
	if !x.Ended() || x.Out() != out || x.Steps() != steps || x.Noted() != noted {
		t.Fatalf("Ended %v, Out %v, Steps %d, Noted %d, want true, %v, %d, %d", x.Ended(), x.Out(), x.Steps(), x.Noted(), out, steps, noted)
	}
}

// goes does a step that mustn't be the last one, and wants memory to be asked just once in it.
func goes(t *testing.T, m *mem.Mem, x *Machine) {
	t.Helper()
	count, steps := m.Count(), x.Steps()
	if x.Step() || x.Ended() || x.Out() != nil {
		t.Fatalf("behind %d asks: it ended, %v", x.Steps(), x.Out())
	}
	if m.Count() != count+1 || x.Steps() != steps+1 {
		t.Fatalf("Count %d, Steps %d, want %d, %d", m.Count(), x.Steps(), count+1, steps+1)
	}
}

// ends does the last step, and wants memory to be asked just once in it.
func ends(t *testing.T, m *mem.Mem, x *Machine, out any) {
	t.Helper()
	count, steps := m.Count(), x.Steps()
	if !x.Step() || !x.Ended() || x.Out() != out {
		t.Fatalf("behind %d asks: Ended %v, Out %v, want true, %v", x.Steps(), x.Ended(), x.Out(), out)
	}
	if m.Count() != count+1 || x.Steps() != steps+1 {
		t.Fatalf("Count %d, Steps %d, want %d, %d", m.Count(), x.Steps(), count+1, steps+1)
	}
}

// add is a function that adds to a word as often as it says, by two asks each time, and answers the word that it saw last.
func add(h, by, often int) func(p *Port) any {
	return func(p *Port) any {
		n := 0
		for range often {
			n, _ = p.Word(h)
			p.Store(h, n+by)
		}
		return n
	}
}

// 13.1: a machine that did no step yet did nothing: not even what stands ahead of the first ask.
func TestNoStepYet(t *testing.T) {
	m := fresh(t, 3)
	runs := 0
	fs := []func(p *Port) any{
		func(p *Port) any { runs++; p.Note(4); return 5 },
		func(p *Port) any { runs++; p.Note(4); p.AllocWord(1); p.Note(6); return 5 },
	}
	for _, f := range fs {
		x := New(m, f)
		if x == nil {
			t.Fatal("New answered nil")
		}
		stands(t, x, 0, 0)
		stands(t, x, 0, 0)
	}
	if runs != 0 || m.Count() != 0 || m.Live() != 0 {
		t.Fatalf("%d runs, Count %d, Live %d, want 0, 0, 0", runs, m.Count(), m.Live())
	}
}

// 13.1: a function that asks nothing ends in the first step.
func TestAsksNothing(t *testing.T) {
	m := fresh(t, 3)
	x := New(m, func(p *Port) any { return "over" })
	if !x.Step() {
		t.Fatal("it didn't end in its first step")
	}
	ended(t, x, "over", 0, 0)
	x = New(m, func(p *Port) any { p.Note(7); p.Note(p.Cells()); return nil })
	if !x.Step() {
		t.Fatal("it didn't end in its first step")
	}
	ended(t, x, nil, 0, 3)
	if m.Count() != 0 {
		t.Fatalf("Count %d, want 0", m.Count())
	}
}

// 13.1: a function that asks once, twice and many times ends in as many steps.
func TestAsMany(t *testing.T) {
	for _, often := range []int{1, 2, 3, 4, 5, 10, 100, 1000} {
		m := fresh(t, 1)
		h := number(t, m, 0)
		x := New(m, func(p *Port) any {
			for i := range often {
				p.Store(h, i+1)
			}
			return often
		})
		for i := range often - 1 {
			goes(t, m, x)
			stands(t, x, i+1, 0)
			holds(t, m, h, i+1)
		}
		ends(t, m, x, often)
		ended(t, x, often, often, 0)
		holds(t, m, h, often)
	}
}

// 13.1: a step does the next ask, and what comes behind it, up to ahead of the one that follows: that one isn't done yet.
func TestUpToTheNext(t *testing.T) {
	m := fresh(t, 2)
	a, b := number(t, m, 1), number(t, m, 2)
	x := New(m, func(p *Port) any {
		n, _ := p.Word(a)
		p.Note(n)
		p.Store(b, 10*n)
		n, _ = p.Word(b)
		p.Note(n)
		return n
	})
	m.Store(a, 3)
	goes(t, m, x)
	stands(t, x, 1, 3)
	m.Store(a, 4)
	holds(t, m, b, 2)
	goes(t, m, x)
	stands(t, x, 2, 3)
	holds(t, m, b, 30)
	m.Store(b, 77)
	ends(t, m, x, 77)
	ended(t, x, 77, 3, 77)
	holds(t, m, a, 4)
}

// 13.1: a step of a machine that has ended does nothing.
func TestStepsBehindTheEnd(t *testing.T) {
	for often := range 4 {
		m := fresh(t, 1)
		h := number(t, m, 5)
		runs := 0
		x := New(m, func(p *Port) any {
			runs++
			p.Note(runs)
			return add(h, 1, often)(p)
		})
		for !x.Step() {
		}
		out, steps, noted, count, done := x.Out(), x.Steps(), x.Noted(), m.Count(), runs
		if steps != 2*often {
			t.Fatalf("Steps %d, want %d", steps, 2*often)
		}
		for range 5 {
			if !x.Step() {
				t.Fatal("a machine that has ended goes on")
			}
			ended(t, x, out, steps, noted)
			if m.Count() != count || runs != done {
				t.Fatalf("Count %d, runs %d, want %d, %d", m.Count(), runs, count, done)
			}
		}
		holds(t, m, h, 5+often)
		if x.f != nil || x.port.told != nil {
			t.Fatal("what a machine that has ended was done with is kept")
		}
	}
}

// 13.1: Cells is the memory's, and Note notes: neither is an ask, wherever it stands.
func TestCellsAndNote(t *testing.T) {
	for _, cells := range []int{1, 2, 1000, 65535} {
		m := fresh(t, cells)
		h := number(t, m, 0)
		x := New(m, func(p *Port) any {
			p.Note(1)
			sum := p.Cells()
			p.Store(h, 1)
			sum += 2 * p.Cells()
			p.Note(2)
			p.Note(sum)
			p.Store(h, 2)
			p.Note(3)
			return sum + 4*p.Cells()
		})
		goes(t, m, x)
		stands(t, x, 1, 3*cells)
		holds(t, m, h, 1)
		ends(t, m, x, 7*cells)
		ended(t, x, 7*cells, 2, 3)
		if got := Do(m, func(p *Port) any { p.Note(1); return p.Cells() }); got != cells || m.Count() != 4 {
			t.Fatalf("%v, Count %d, want %d, 4", got, m.Count(), cells)
		}
	}
}

// numbers are of whatever size and sign.
var numbers = []int{math.MinInt, math.MinInt + 1, -1 << 32, -65536, -2, -1, 1, 2, 65535, 1 << 30, 1<<31 - 1, 1 << 31, 1<<32 + 1, 1 << 62, math.MaxInt - 1, math.MaxInt, 0}

// 13.1: the number that was noted last is told, whatever number it is, and stays as long as none is noted.
func TestNoted(t *testing.T) {
	m := fresh(t, 1)
	h := number(t, m, 0)
	x := New(m, func(p *Port) any {
		for _, n := range numbers {
			p.Store(h, 0)
			p.Note(n)
			p.Store(h, 1)
		}
		p.Store(h, 2)
		for _, n := range numbers {
			p.Note(-n)
			p.Note(n)
		}
		p.Note(9)
		return nil
	})
	last := 0
	for i, n := range numbers {
		goes(t, m, x)
		stands(t, x, 2*i+1, n)
		goes(t, m, x)
		stands(t, x, 2*i+2, n)
		last = n
	}
	stands(t, x, 2*len(numbers), last)
	ends(t, m, x, nil)
	ended(t, x, nil, 2*len(numbers)+1, 9)
}

// 13.1: what is noted ahead of the first ask is told behind the first step, and is told still where nothing else was noted.
func TestNotedOnce(t *testing.T) {
	m := fresh(t, 1)
	h := number(t, m, 0)
	x := New(m, func(p *Port) any {
		p.Note(-8)
		return add(h, 1, 2)(p)
	})
	for i := range 3 {
		goes(t, m, x)
		stands(t, x, i+1, -8)
	}
	ends(t, m, x, 1)
	ended(t, x, 1, 4, -8)
}

// 13.1: Out is what the function answered, of whatever kind it is; nil as long as it hasn't ended.
func TestOut(t *testing.T) {
	type block struct{ a, b string }
	kept := &block{"a", "b"}
	m := fresh(t, 2)
	h := number(t, m, 0)
	for _, out := range []any{nil, 0, 7, math.MinInt, "", "a text", block{"x", "y"}, kept, (*block)(nil), true, false, 1.5, api.OK, api.ErrStale, [2]int{1, 2}} {
		for asks := range 4 {
			f := func(p *Port) any {
				for range asks {
					p.Word(h)
				}
				return out
			}
			x := New(m, f)
			for range asks - 1 {
				goes(t, m, x)
			}
			if !x.Step() {
				t.Fatalf("%v: it hasn't ended behind %d asks", out, asks)
			}
			ended(t, x, out, asks, 0)
			if got := Do(m, f); got != out {
				t.Fatalf("Do answered %v, want %v", got, out)
			}
		}
	}
	x := New(m, func(p *Port) any { p.Word(h); return []int{1, 2} })
	x.Step()
	if l, ok := x.Out().([]int); !ok || !slices.Equal(l, []int{1, 2}) {
		t.Fatalf("Out %v", x.Out())
	}
}

// 13.1: a block is handed on as memory answered it, also in the steps behind the one in which it was asked for.
func TestBlocksAsTheyAre(t *testing.T) {
	m := fresh(t, 3)
	block := &struct{ n int }{5}
	x := New(m, func(p *Port) any {
		h, _ := p.Alloc(block)
		first, _ := p.Load(h)
		p.AllocWord(3)
		second, _ := p.Load(h)
		if first != any(block) || second != any(block) {
			return false
		}
		p.Free(h)
		return true
	})
	for range 4 {
		goes(t, m, x)
	}
	ends(t, m, x, true)
	if m.Live() != 1 || m.Stale() != 0 {
		t.Fatalf("Live %d, Stale %d, want 1, 0", m.Live(), m.Stale())
	}
}

// 13.1: which asks come, and how many, hangs on the answers that came.
func TestHangsOnAnswers(t *testing.T) {
	m := fresh(t, 8)
	list := []int{number(t, m, 0)}
	for range 5 {
		list = append(list, number(t, m, list[len(list)-1]))
	}
	along := func(h int) func(p *Port) any {
		return func(p *Port) any {
			sum := 0
			for h := h; h != 0; {
				sum += h
				next, err := p.Word(h)
				if err != api.OK {
					return err
				}
				h = next
			}
			return sum
		}
	}
	for i, h := range list {
		x := New(m, along(h))
		for range i {
			goes(t, m, x)
		}
		ends(t, m, x, (i+1)*(i+2)/2)
	}
	x := New(m, along(99))
	ends(t, m, x, api.ErrStale)
	x = New(m, along(list[5]))
	goes(t, m, x)
	m.Store(list[4], list[1])
	goes(t, m, x)
	goes(t, m, x)
	ends(t, m, x, 6+5+2+1)
}

// addOne is a function that adds one to a word, in a loop till a Swap succeeds, and answers how often it tried.
func addOne(h int) func(p *Port) any {
	return func(p *Port) any {
		for tries := 1; ; tries++ {
			n, err := p.Word(h)
			if err != api.OK {
				return err
			}
			if ok, _ := p.Swap(h, n, n+1); ok {
				p.Note(n + 1)
				return tries
			}
		}
	}
}

// 13.1, 13.3: a function that asks in a loop goes on as often as others are ahead of it.
func TestSwapLoop(t *testing.T) {
	m := fresh(t, 1)
	h := number(t, m, 10)
	x := New(m, addOne(h))
	for i := range 6 {
		goes(t, m, x)
		stands(t, x, 2*i+1, 0)
		if i < 5 {
			m.Store(h, 20+i)
			goes(t, m, x)
			stands(t, x, 2*i+2, 0)
			holds(t, m, h, 20+i)
		}
	}
	ends(t, m, x, 6)
	ended(t, x, 6, 12, 25)
	holds(t, m, h, 25)
}

// 13.3: a machine whose handle another one frees between two of its steps is told that it is stale.
func TestFreedBetween(t *testing.T) {
	m := fresh(t, 2)
	h := number(t, m, 1)
	x := New(m, addOne(h))
	y := New(m, func(p *Port) any { return p.Free(h) })
	z := New(m, func(p *Port) any { n, _ := p.AllocWord(1); return n })
	goes(t, m, x)
	ends(t, m, y, api.OK)
	ends(t, m, z, h+65536)
	stale := m.Stale()
	goes(t, m, x)
	ends(t, m, x, api.ErrStale)
	if m.Stale() != stale+2 {
		t.Fatalf("Stale %d, want %d", m.Stale(), stale+2)
	}
	holds(t, m, h+65536, 1)
}

// 13.3: a machine that is left standing keeps no other one from going on, nor is it kept from it later.
func TestLeftStanding(t *testing.T) {
	m := fresh(t, 1)
	h := number(t, m, 0)
	left := New(m, addOne(h))
	goes(t, m, left)
	for i := range 50 {
		x := New(m, addOne(h))
		goes(t, m, x)
		ends(t, m, x, 1)
		ended(t, x, 1, 2, i+1)
		stands(t, left, 1, 0)
	}
	holds(t, m, h, 50)
	goes(t, m, left)
	goes(t, m, left)
	ends(t, m, left, 2)
	holds(t, m, h, 51)
}

// 13.3: machines of two memories have nothing in common, also if they have one function.
func TestTwoMemories(t *testing.T) {
	a, b := fresh(t, 1), fresh(t, 2)
	h := number(t, a, 100)
	if number(t, b, 200) != h {
		t.Fatal("unlike handles")
	}
	f := func(p *Port) any {
		n, _ := p.Word(h)
		p.Note(n)
		_, err := p.AllocWord(n + p.Cells())
		p.Store(h, n+1)
		return err
	}
	x, y := New(a, f), New(b, f)
	goes(t, a, x)
	stands(t, y, 0, 0)
	if b.Count() != 1 {
		t.Fatalf("Count %d, want 1", b.Count())
	}
	goes(t, b, y)
	goes(t, b, y)
	stands(t, x, 1, 100)
	stands(t, y, 2, 200)
	goes(t, a, x)
	ends(t, a, x, api.ErrFull)
	stands(t, y, 2, 200)
	holds(t, b, 2, 202)
	holds(t, b, h, 200)
	ends(t, b, y, api.OK)
	holds(t, a, h, 101)
	holds(t, b, h, 201)
}

// 13.2: Do does a function at once, once, and asks memory as often as the function asks.
func TestDo(t *testing.T) {
	for _, often := range []int{0, 1, 2, 100, 5000} {
		m := fresh(t, 1)
		h := number(t, m, 0)
		runs := 0
		got := Do(m, func(p *Port) any {
			runs++
			p.Note(5)
			return add(h, 1, often)(p)
		})
		if got != max(0, often-1) || runs != 1 || m.Count() != 1+2*often {
			t.Fatalf("%d: %v, %d runs, Count %d", often, got, runs, m.Count())
		}
		holds(t, m, h, often)
	}
}

// 13.2: what Do does in the midst of a machine's steps is there for the machine, as whatever else is done to memory.
func TestDoBetweenSteps(t *testing.T) {
	m := fresh(t, 1)
	h := number(t, m, 0)
	x := New(m, addOne(h))
	goes(t, m, x)
	if got := Do(m, addOne(h)); got != 1 {
		t.Fatalf("Do = %v, want 1", got)
	}
	goes(t, m, x)
	goes(t, m, x)
	ends(t, m, x, 2)
	holds(t, m, h, 2)
}

// 13.1: the same function may be that of several machines, and of Do: each does it for itself.
func TestOneFunction(t *testing.T) {
	m := fresh(t, 1)
	h := number(t, m, 0)
	f := add(h, 1, 2)
	x, y := New(m, f), New(m, f)
	goes(t, m, x)
	goes(t, m, y)
	goes(t, m, x)
	goes(t, m, x)
	stands(t, x, 3, 0)
	stands(t, y, 1, 0)
	goes(t, m, y)
	ends(t, m, x, 1)
	holds(t, m, h, 2)
	goes(t, m, y)
	ends(t, m, y, 2)
	if got := Do(m, f); got != 4 {
		t.Fatalf("Do = %v, want 4", got)
	}
	holds(t, m, h, 5)
}

// 13.1, 13.3: what a function's own defers ask is asked behind all else, one a step; what they note while it is stopped isn't noted.
func TestDefers(t *testing.T) {
	m := fresh(t, 2)
	h := number(t, m, 0)
	f := func(p *Port) any {
		own, _ := p.AllocWord(3)
		p.Note(1)
		defer p.Note(2)
		defer p.Free(own)
		p.Store(h, own)
		return own
	}
	x := New(m, f)
	goes(t, m, x)
	stands(t, x, 1, 1)
	holds(t, m, 2, 3)
	goes(t, m, x)
	stands(t, x, 2, 1)
	holds(t, m, 2, 3)
	ends(t, m, x, 2)
	ended(t, x, 2, 3, 2)
	if got := Do(m, f); got != 2+65536 || m.Live() != 1 || m.Stale() != 0 {
		t.Fatalf("%v, Live %d, Stale %d", got, m.Live(), m.Stale())
	}
}

// 13.1: a function that recovers whatever panics in it is stopped all the same, and ends with what it answers at its end.
func TestRecovers(t *testing.T) {
	m := fresh(t, 1)
	h := number(t, m, 0)
	careful := func(p *Port, f func()) {
		defer func() {
			if recover() != nil {
				p.Note(99)
			}
		}()
		f()
	}
	x := New(m, func(p *Port) any {
		careful(p, func() { p.Store(h, 1) })
		careful(p, func() { p.Store(h, 2) })
		p.Note(3)
		careful(p, func() { p.Store(h, 3) })
		return "end"
	})
	goes(t, m, x)
	stands(t, x, 1, 0)
	holds(t, m, h, 1)
	goes(t, m, x)
	stands(t, x, 2, 3)
	holds(t, m, h, 2)
	ends(t, m, x, "end")
	ended(t, x, "end", 3, 3)
	holds(t, m, h, 3)
}

// panicked is what a call panicked with; nil, if it didn't.
func panicked(f func()) (with any) {
	defer func() { with = recover() }()
	f()
	return nil
}

// 13.1: what panics in a function by itself isn't taken for what stops it: it goes on to who stepped, and who did it at once.
func TestOwnPanic(t *testing.T) {
	m := fresh(t, 1)
	h := number(t, m, 0)
	fault := errors.New("fault")
	for _, with := range []any{"fault", 5, fault, halt{}, halt{&Port{}}, &Port{}} {
		f := func(p *Port) any {
			p.Store(h, 1)
			p.Word(h)
			panic(with)
		}
		x := New(m, f)
		goes(t, m, x)
		if got := panicked(func() { x.Step() }); got != with {
			t.Fatalf("Step panicked with %v, want %v", got, with)
		}
		stands(t, x, 2, 0)
		if got := panicked(func() { Do(m, f) }); got != with {
			t.Fatalf("Do panicked with %v, want %v", got, with)
		}
	}
}

// 13.1, 13.3: a function may have machines of its own, on memory of its own: each is stopped at its own asks.
func TestMachinesWithin(t *testing.T) {
	m := fresh(t, 1)
	h := number(t, m, 0)
	x := New(m, func(p *Port) any {
		own, _ := mem.New(1)
		inner := New(own, func(q *Port) any {
			w, _ := q.AllocWord(40)
			q.Store(w, 41)
			n, _ := q.Word(w)
			return n
		})
		for !inner.Step() {
			p.Note(inner.Steps())
			p.Store(h, own.Count())
		}
		p.Store(h, 10*own.Count())
		return inner.Out()
	})
	goes(t, m, x)
	stands(t, x, 1, 2)
	holds(t, m, h, 1)
	goes(t, m, x)
	stands(t, x, 2, 2)
	holds(t, m, h, 2)
	ends(t, m, x, 41)
	ended(t, x, 41, 3, 2)
	holds(t, m, h, 30)
}

// 13.1: the chapter's example.
func TestExample(t *testing.T) {
	m := fresh(t, 1)
	h := number(t, m, 0)
	x := New(m, func(p *Port) any { p.Store(h, 3); return 7 })
	ends(t, m, x, 7)
	ended(t, x, 7, 1, 0)
	holds(t, m, h, 3)
}
