package plan

import (
	"math"
	"reflect"
	"slices"
	"sort"
	"testing"

	"rundle/api"
	"rundle/desc"
	"rundle/key"
	"rundle/mem"
	"rundle/node"
	"rundle/rev"
	"rundle/step"
	"rundle/tag"
	"rundle/tower"
)

// drawer draws numbers, the same ones each time.
type drawer uint64

func (d *drawer) below(n int) int {
	*d = *d*6364136223846793005 + 1442695040888963407
	return int(uint64(*d)>>33) % n
}

// of draws one of a list.
func (d *drawer) of(l ...int) int { return l[d.below(len(l))] }

// text draws a text of so many bytes at most, of few kinds.
func (d *drawer) text(most int) string {
	l := make([]byte, d.below(most+1))
	for i := range l {
		l[i] = "\x00abc\xff"[d.below(5)]
	}
	return string(l)
}

// bools draws a list of so many.
func (d *drawer) bools(n int) []bool {
	l := make([]bool, n)
	for i := range l {
		l[i] = d.below(2) == 0
	}
	return l
}

// texts draws unlike texts, rising; the first one has no bytes.
func (d *drawer) texts(n int) []string {
	l := []string{""}
	for range n {
		l = append(l, d.text(4))
	}
	slices.Sort(l)
	return slices.Compact(l)
}

// row draws a right row, of versions and rates that are few.
func (d *drawer) row(t *testing.T) []tower.View {
	t.Helper()
	lows := d.texts(d.below(9))
	keys := d.texts(d.below(40))[1:]
	first := 1 + d.below(5)
	var l []tower.View
	for i, low := range lows {
		sp := key.Span{Lo: low, All: true}
		if i < len(lows)-1 {
			sp = key.Span{Lo: low, Hi: lows[i+1]}
		}
		var es []api.Entry
		for _, k := range keys {
			if !key.Has(sp, k) || d.below(4) == 0 {
				continue
			}
			if d.below(3) == 0 {
				es = append(es, api.Entry{Key: k, Gone: true})
			} else {
				es = append(es, api.Entry{Key: k, Value: d.text(3)})
			}
		}
		if d.below(3) == 0 {
			es = slices.DeleteFunc(es, func(e api.Entry) bool { return !e.Gone })
		}
		r := revOf(t, 1+d.below(6), d.of(0, 0, 4, 15, 16, 40, 90, 4080), sp, es)
		v := tower.View{Handle: handleOf(i), Node: node.Node{Low: low, Head: 5000 + i}, Head: 6000 + i, Rev: r}
		links := first
		if i > 0 {
			links = 1 + d.below(first)
		}
		for level := range links {
			v.Node.Next = append(v.Node.Next, 1000+30*i+level)
		}
		v.Links = make([]int, links)
		l = append(l, v)
	}
	for i, v := range l {
		for level := range v.Links {
			v.Links[level] = word(tower.To(l, i, level), d.below(9))
		}
	}
	if !tower.Right(l) {
		t.Fatalf("%+v isn't right", l)
	}
	return l
}

// towers draws towers of whichever cells and words.
func (d *drawer) towers() []Tower {
	l := make([]Tower, d.below(9))
	for i := range l {
		l[i] = Tower{Handle: d.of(11, 12, 13, 14, 15, 16, 17, 65537), Gone: d.below(3) == 0}
		for range d.below(5) {
			l[i].Cells = append(l[i].Cells, d.of(odd...))
			l[i].Words = append(l[i].Words, d.of(0, 11, 12, 13, word(14, 3), word(15, 1), word(16, 1<<30), word(17, 2), word(65537, 4), -1, 65536))
		}
	}
	return l
}

// leads is Leads, told once more: all whom one might lead to, and of these the first one.
func leads(l []Tower, i, level int) int {
	var all []int
	for j, x := range l {
		if j > i && level >= 0 && !x.Gone && level < len(x.Cells) {
			all = append(all, x.Handle)
		}
	}
	return append(all, 0)[0]
}

// made is chapter 11's word, told once more.
func made(h, version int) int {
	if version < 0 || version > 1<<30 {
		return -1
	}
	return word(h, version)
}

// relink is Relink, told once more.
func relink(l []Tower, version int) []desc.Swap {
	var out []desc.Swap
	for i, x := range l {
		for level, w := range x.Words {
			is := w % (1 << 31)
			if w < 0 || is%65536 == 0 || is/65536 > 16383 {
				is = 0
			}
			if to := leads(l, i, level); to != is && !x.Gone {
				out = append(out, desc.Swap{Cell: x.Cells[level], Old: w, New: made(to, version)})
			}
		}
	}
	return out
}

// 18.1: Leads, Links and Relink against the chapter's words told once more, over drawn towers.
func TestTowersTold(t *testing.T) {
	d := drawer(1)
	swaps := 0
	for range 4000 {
		l := d.towers()
		version := d.of(0, 1, 7, 1<<30, 1<<30+1, -1)
		for range 8 {
			i, level, height := d.of(math.MinInt, -2, -1, 0, 1, 2, 3, 4, 5, 6, 7, 8, 9, math.MaxInt), d.of(math.MinInt, -1, 0, 1, 2, 3, 4, 5, math.MaxInt), d.below(28)-1
			if got, want := Leads(l, i, level), leads(l, i, level); got != want {
				t.Fatalf("Leads(%+v, %d, %d): %d, want %d", l, i, level, got, want)
			}
			var want []int
			for n := range height {
				want = append(want, made(leads(l, i, n), version))
			}
			if height > 24 {
				want = nil
			}
			if got := Links(l, i, height, version); !slices.Equal(got, want) {
				t.Fatalf("Links(%+v, %d, %d, %d): %v, want %v", l, i, height, version, got, want)
			}
		}
		got, want := Relink(l, version), relink(l, version)
		if len(got)+len(want) > 0 && !reflect.DeepEqual(got, want) {
			t.Fatalf("Relink(%+v, %d): %v, want %v", l, version, got, want)
		}
		swaps += len(got)
	}
	if swaps < 8000 {
		t.Fatalf("%d swaps in all", swaps)
	}
}

// counted is how many live entries a view has.
func counted(v tower.View) int {
	n := 0
	for _, gone := range v.Rev.Gone {
		if !gone {
			n++
		}
	}
	return n
}

// limit is chapter 7's, told once more, of a low and a high from 2 to 64, the high one no less.
func limit(rate, low, high int) int {
	for n := range high {
		if n >= low && n == low+min(rate, 4080)/16 {
			return n
		}
	}
	return high
}

// at is At, told once more: how many Lows aren't greater, less one, since Lows rise.
func at(l []tower.View, k string) int {
	return sort.Search(len(l), func(i int) bool { return l[i].Node.Low > k }) - 1
}

// choose is Choose, told once more: all that might be, in the chapter's order, and of these the first one.
func choose(l []tower.View, k string, least, low, high int) (int, int) {
	type what struct {
		kind, at, from, to int
	}
	i := at(l, k)
	for _, x := range []what{{Split, i, i, i}, {Join, i, i, i + 1}, {Join, i - 1, i - 1, i}} {
		if x.from < 0 || x.to >= len(l) {
			continue
		}
		sum, rate, newest := 0, 0, 0
		for _, v := range l[x.from : x.to+1] {
			sum, rate, newest = sum+counted(v), max(rate, v.Rev.Rate), max(newest, v.Rev.Version)
		}
		most := limit(rate, low, high)
		if newest <= least && (x.kind == Split && sum > most || x.kind == Join && 2*sum <= most) {
			return x.kind, x.at
		}
	}
	return Keep, 0
}

// empty is whether a place is told so by Empties, told once more: the place's own words.
func empty(l []tower.View, i, least int) bool {
	if i == 0 || l[i].Rev.Version > least || counted(l[i]) > 0 {
		return false
	}
	j := i - 1
	for empty(l, j, least) {
		j--
	}
	return l[j].Rev.Version <= least
}

// takers is Takers, told once more: what has been in the keys of those that go, in one revision.
func takers(t *testing.T, l []tower.View, gone []bool) []Taker {
	t.Helper()
	goes := append(slices.Clone(gone), make([]bool, len(l)+1)...)
	goes[0] = false
	var out []Taker
	for i := range l {
		to := i + 1
		for to < len(l) && goes[to] {
			to++
		}
		if goes[i] || to == i+1 {
			continue
		}
		version, rate := math.MinInt, math.MinInt
		var es []api.Entry
		for _, v := range l[i:to] {
			version, rate = max(version, v.Rev.Version), max(rate, v.Rev.Rate)
			for n, k := range v.Rev.Keys {
				if !v.Rev.Gone[n] {
					es = append(es, api.Entry{Key: k, Value: v.Rev.Vals[n]})
				}
			}
		}
		last := l[to-1].Rev.Span
		sp := key.Span{Lo: l[i].Node.Low, Hi: last.Hi, All: last.All}
		out = append(out, Taker{At: i, Rev: revOf(t, version, rate, sp, es)})
	}
	return out
}

// 18.2, 18.3, 18.4: At, Choose, Empties and Takers against the chapter's words told once more, over drawn rows that are right; what takers have is all that the nodes had that they take in.
func TestRowsTold(t *testing.T) {
	d := drawer(2)
	whats, empties, taken := map[int]int{}, 0, 0
	for range 6000 {
		l := d.row(t)
		least, low := d.below(8), 2+d.below(5)
		high := low + d.below(9)
		for range 6 {
			k := d.text(5)
			if got, want := At(l, k), at(l, k); got != want {
				t.Fatalf("At(%+v, %q): %d, want %d", l, k, got, want)
			}
			what, place := Choose(l, k, least, low, high)
			if w, p := choose(l, k, least, low, high); w != what || p != place {
				t.Fatalf("Choose(%+v, %q, %d, %d, %d): %d, %d, want %d, %d", l, k, least, low, high, what, place, w, p)
			}
			whats[what]++
		}
		got := Empties(l, least)
		for i := range l {
			if want := empty(l, i, least); got[i] != want {
				t.Fatalf("Empties(%+v, %d): %v at %d", l, least, got, i)
			}
			if got[i] {
				empties++
			}
		}
		for _, gone := range [][]bool{got, d.bools(len(l)), d.bools(d.below(10))} {
			tt, want := Takers(l, gone), takers(t, l, gone)
			if len(tt)+len(want) > 0 && !reflect.DeepEqual(tt, want) {
				t.Fatalf("Takers(%+v, %v): %+v, want %+v", l, gone, tt, want)
			}
			taken += len(tt)
		}
	}
	if whats[Keep] < 3000 || whats[Split] < 3000 || whats[Join] < 3000 || empties < 2000 || taken < 5000 {
		t.Fatalf("%v were told, %d empties, %d takers", whats, empties, taken)
	}
}

// swapped are towers behind swaps: each cell that is named has to hold what the swap is from.
func swapped(t *testing.T, l []Tower, swaps []desc.Swap) {
	t.Helper()
	for _, s := range swaps {
		found := 0
		for _, x := range l {
			for n, c := range x.Cells {
				if c == s.Cell {
					if x.Words[n] != s.Old {
						t.Fatalf("%+v: the cell holds %d", s, x.Words[n])
					}
					x.Words[n] = s.New
					found++
				}
			}
		}
		if found != 1 {
			t.Fatalf("%+v: %d towers have that cell", s, found)
		}
	}
}

// leadsRight holds against Leads what towers that stay lead to.
func leadsRight(t *testing.T, l []Tower) {
	t.Helper()
	for i, x := range l {
		for level, w := range x.Words {
			if to := leads(l, i, level); !x.Gone && w%(1<<31) != to {
				t.Fatalf("the tower %d of %+v leads to %d on the level %d, not to %d", i, l, w%(1<<31), level, to)
			}
		}
	}
}

// 18.4: drawn right rows, of which some go, and among which some are put in: behind the swaps each tower that stays leads to what Leads tells, and Relink tells nothing more; those that were put in last, at their places, lead right at once; who goes is never changed; where nothing goes, and nothing is put in, there are none.
func TestRelinked(t *testing.T) {
	d := drawer(3)
	for seed := range 3000 {
		l := Towers(d.row(t))
		if swaps := Relink(l, 9); len(swaps) != 0 {
			t.Fatalf("nothing goes, but there are %v", swaps)
		}
		for i := range l {
			l[i].Gone = d.below(3) == 0
		}
		in := map[int]bool{}
		for n := range seed % 4 {
			at := d.below(len(l)+1) - 1
			x := Tower{Handle: 901 + n, Words: Links(l, at, 1+d.below(7), 9)}
			for level := range x.Words {
				x.Cells = append(x.Cells, 9000+30*n+level)
				in[x.Cells[level]] = n == seed%4-1
			}
			l = slices.Insert(l, at+1, x)
		}
		var before []Tower
		for _, x := range l {
			before = append(before, Tower{Handle: x.Handle, Cells: slices.Clone(x.Cells), Words: slices.Clone(x.Words), Gone: x.Gone})
		}
		swaps := Relink(l, 9)
		for _, s := range swaps {
			if in[s.Cell] {
				t.Fatalf("one that was just put in is changed by %+v", s)
			}
		}
		swapped(t, l, swaps)
		leadsRight(t, l)
		for i, x := range l {
			if x.Gone && !reflect.DeepEqual(x, before[i]) {
				t.Fatalf("one that goes was %+v, is %+v", before[i], x)
			}
		}
		if again := Relink(l, 10); len(again) != 0 {
			t.Fatalf("behind the swaps there are %v", again)
		}
	}
}

// built lets memory hold the nodes of a row, and answers the handles of them all.
func built(t *testing.T, p *step.Port, l []tower.View) []int {
	t.Helper()
	hs := make([]int, len(l))
	for i := len(l) - 1; i >= 0; i-- {
		age, err := node.Lay(p, l[i].Rev, 0)
		if err != api.OK {
			t.Fatalf("Lay: %d", err)
		}
		links := make([]int, len(l[i].Links))
		for level := range links {
			for j := len(l) - 1; j > i; j-- {
				if len(l[j].Links) > level {
					links[level] = word(hs[j], 2)
				}
			}
		}
		if hs[i], err = node.Make(p, l[i].Node.Low, age, links); err != api.OK {
			t.Fatalf("Make: %d", err)
		}
	}
	return hs
}

// newHead lets a node's head tell an age of another revision.
func newHead(p *step.Port, v tower.View, r rev.Rev) {
	age, _ := node.Lay(p, r, 0)
	p.Store(v.Node.Head, age)
}

// halved parts a node of the row, if it may be, and tells the towers with the new one put in behind it.
func halved(t *testing.T, p *step.Port, l []tower.View, towers []Tower, i, height int) []Tower {
	t.Helper()
	a, b, ok := rev.Split(l[i].Rev)
	if !ok {
		return towers
	}
	newHead(p, l[i], a)
	age, _ := node.Lay(p, b, 0)
	links := Links(towers, i, height, 9)
	h, err := node.Make(p, b.Span.Lo, age, links)
	if err != api.OK {
		t.Fatalf("Make: %d", err)
	}
	n, _ := node.Load(p, h)
	return slices.Insert(towers, i+1, Tower{Handle: h, Cells: n.Next, Words: links})
}

// pairs are all that a row has.
func pairs(l []tower.View) []api.Pair {
	var out []api.Pair
	for _, v := range l {
		out = append(out, rev.Pairs(v.Rev, key.Whole(), math.MaxInt)...)
	}
	return out
}

// 18.4: rows in memory, drawn: takers take in, nodes that are neither are parted, and swaps are made: the row is right then, of those that stay and those that were put in, and has what it had; from the first node each key is found.
func TestRowsBecomeRight(t *testing.T) {
	d := drawer(4)
	went, came := 0, 0
	for range 2500 {
		l := d.row(t)
		m, _ := mem.New(400)
		step.Do(m, func(p *step.Port) any {
			hs := built(t, p, l)
			walked, err := tower.Walk(p, hs[0])
			if err != api.OK || !tower.Right(walked) || len(walked) != len(l) {
				t.Fatalf("the row is %+v", walked)
			}
			gone := make([]bool, len(l))
			ts := Towers(walked)
			for i := range ts {
				gone[i] = i > 0 && d.below(3) == 0
				ts[i].Gone = gone[i]
			}
			takes := map[int]bool{}
			for _, x := range Takers(walked, gone) {
				newHead(p, walked[x.At], x.Rev)
				takes[x.At] = true
			}
			var stay []int
			for i := len(walked) - 1; i >= 0; i-- { // the last one first, so that places stay what they are
				if !gone[i] && !takes[i] && d.below(2) == 0 {
					ts = halved(t, p, walked, ts, i, 1+d.below(len(walked[0].Links)))
				}
			}
			for _, x := range ts {
				if !x.Gone {
					stay = append(stay, x.Handle)
				}
			}
			for _, s := range Relink(ts, 9) {
				if ok, err := p.Swap(s.Cell, s.Old, s.New); !ok || err != api.OK {
					t.Fatalf("%+v: %v, %d", s, ok, err)
				}
			}
			now, err := tower.Walk(p, hs[0])
			if err != api.OK || !tower.Right(now) {
				t.Fatalf("the row is %+v", now)
			}
			var are []int
			for _, v := range now {
				are = append(are, v.Handle)
			}
			if !slices.Equal(are, stay) || !slices.Equal(pairs(now), pairs(l)) {
				t.Fatalf("the nodes are %v, want %v; they have %v, had %v", are, stay, pairs(now), pairs(l))
			}
			for _, x := range pairs(l) {
				h, _, _ := tower.Search(p, hs[0], x.Key)
				if v, ok := rev.Get(now[At(now, x.Key)].Rev, x.Key); h != now[At(now, x.Key)].Handle || v != x.Value || !ok {
					t.Fatalf("%q isn't found", x.Key)
				}
			}
			went += len(walked) - len(slices.DeleteFunc(gone, func(b bool) bool { return b }))
			came += len(ts) - len(walked)
			return nil
		})
	}
	if went < 1500 || came < 500 {
		t.Fatalf("%d went, %d came", went, came)
	}
}

// roomy is a list with spare room, in which something stands.
func roomy[T any](l []T, spare T) []T {
	return append(append(slices.Clone(l), spare), spare)[:len(l)]
}

// whole are all that lists have, spare room included.
func whole(l []tower.View, ts []Tower, gone []bool) []any {
	out := []any{slices.Clone(l[:cap(l)]), slices.Clone(ts[:cap(ts)]), slices.Clone(gone[:cap(gone)])}
	for _, v := range l[:cap(l)] {
		r := v.Rev
		out = append(out, slices.Clone(v.Node.Next[:cap(v.Node.Next)]), slices.Clone(v.Links[:cap(v.Links)]))
		out = append(out, slices.Clone(r.Keys[:cap(r.Keys)]), slices.Clone(r.Vals[:cap(r.Vals)]), slices.Clone(r.Gone[:cap(r.Gone)]), slices.Clone(r.Table[:cap(r.Table)]))
	}
	for _, x := range ts[:cap(ts)] {
		out = append(out, slices.Clone(x.Cells[:cap(x.Cells)]), slices.Clone(x.Words[:cap(x.Words)]))
	}
	return out
}

// Rule 4: nothing that is handed in is changed, spare room included.
func TestNothingChanges(t *testing.T) {
	d := drawer(5)
	for range 400 {
		l := d.row(t)
		for i := range l {
			l[i].Node.Next, l[i].Links = roomy(l[i].Node.Next, 77), roomy(l[i].Links, 78)
			r := &l[i].Rev
			r.Keys, r.Vals, r.Gone, r.Table = roomy(r.Keys, "spare"), roomy(r.Vals, "spare"), roomy(r.Gone, true), roomy(r.Table, 79)
		}
		ts := Towers(l)
		for i := range ts {
			ts[i] = Tower{Handle: ts[i].Handle, Cells: roomy(ts[i].Cells, 80), Words: roomy(ts[i].Words, 81), Gone: d.below(2) == 0}
		}
		l, ts = roomy(l, tower.View{Handle: 82}), roomy(ts, Tower{Handle: 83})
		gone := roomy(d.bools(len(l)), true)
		before := whole(l, ts, gone)
		Towers(l)
		Empties(l, d.below(8))
		Takers(l, gone)
		Relink(ts, 9)
		for i := range len(l) + 2 {
			Leads(ts, i-1, d.below(5))
			Links(ts, i-1, 1+d.below(6), 9)
			k := d.text(4)
			At(l, k)
			Choose(l, k, d.below(8), 2+d.below(4), 6)
		}
		if !reflect.DeepEqual(whole(l, ts, gone), before) {
			t.Fatalf("what was handed in is %+v, was %+v", whole(l, ts, gone), before)
		}
	}
}

// scribble changes all that a list has, spare room included.
func scribble[T any](l []T, to T) {
	for i := range l[:cap(l)] {
		l[:cap(l)][i] = to
	}
}

// Rule 4: what is answered is new memory, spare room included: no two lists of one answer, nor of two answers, share any, nor do they with what was handed in.
func TestNewMemory(t *testing.T) {
	d := drawer(6)
	for range 300 {
		l := d.row(t)
		gone := d.bools(len(l))
		ts, want := Towers(l), Towers(l)
		for i := range ts {
			scribble(ts[i].Cells, -77)
			if !reflect.DeepEqual(ts[i].Words, want[i].Words) {
				t.Fatalf("a tower's words share memory with its cells")
			}
			scribble(ts[i].Words, -78)
			if !reflect.DeepEqual(ts[i+1:], want[i+1:]) {
				t.Fatalf("two towers share their lists")
			}
		}
		scribble(ts, Tower{Handle: 9})
		if !reflect.DeepEqual(Towers(l), want) || !tower.Right(l) {
			t.Fatalf("towers share memory with the row")
		}
		want[0].Gone = true
		if again := Towers(l); again[0].Gone {
			t.Fatalf("towers are told twice")
		}
		answers := func() []any {
			return []any{Links(want, 0, 3, 9), Relink(want, 9), Empties(l, 4), Takers(l, gone), want, l}
		}
		before := answers()
		scribble(Links(want, 0, 3, 9), -5)
		scribble(Relink(want, 9), desc.Swap{Cell: 5})
		scribble(Empties(l, 4), true)
		scribble(Takers(l, gone), Taker{At: 5})
		if !reflect.DeepEqual(answers(), before) {
			t.Fatalf("answers share memory")
		}
	}
}

// Rule 6: what is answered hangs on the arguments alone, told by chapter 11's handles as well.
func TestSameAgain(t *testing.T) {
	d := drawer(7)
	for range 200 {
		l := d.row(t)
		for i := range l {
			l[i].Handle = tag.Handle(i*d.below(7000), d.below(16384))
		}
		ask := func() []any {
			ts := Towers(l)
			ts[len(ts)-1].Gone = true
			what, at := Choose(l, "b", 4, 2, 8)
			return []any{ts, Leads(ts, 0, 1), Links(ts, 0, 4, 6), Relink(ts, 6), At(l, "b"), what, at, Empties(l, 4), Takers(l, Empties(l, 4))}
		}
		first := ask()
		d.bools(d.below(5))
		if !reflect.DeepEqual(ask(), first) {
			t.Fatalf("asked again, it is told otherwise: %+v", first)
		}
	}
}
