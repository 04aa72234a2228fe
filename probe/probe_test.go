package probe

import (
	"math"
	"slices"
	"strconv"
	"strings"
	"testing"

	"rundle/hash"
)

// size is the chapter's number of slots, told once more.
func size(n int) int {
	s := 2
	for s < 2*n {
		s *= 2
	}
	return s
}

// order is all of a key's slots, told once more: those from its own one to the last, and those ahead of it.
func order(k string, slots int) []int {
	own := int(uint64(hash.Of(k)) % uint64(slots))
	var l []int
	for at := own; at < slots; at++ {
		l = append(l, at)
	}
	for at := 0; at < own; at++ {
		l = append(l, at)
	}
	return l
}

// table is the chapter's table of keys, told once more.
func table(keys []string) []int {
	t := make([]int, size(len(keys)))
	for i, k := range keys {
		l := order(k, len(t))
		t[l[slices.IndexFunc(l, func(at int) bool { return t[at] == 0 })]] = i + 1
	}
	return t
}

// find is the chapter's look for a key, told once more.
func find(t []int, keys []string, k string) (int, int) {
	if len(t) != size(len(keys)) {
		return -1, 0
	}
	for i, at := range order(k, len(t)) {
		if t[at] == 0 {
			return -1, i + 1
		}
		for place := range keys {
			if keys[place] == k && t[at] == place+1 {
				return place, i + 1
			}
		}
	}
	return -1, len(t)
}

// names are so many unlike keys, the empty one not among them.
func names(n int) []string {
	var l []string
	for i := range n {
		l = append(l, "k"+strconv.Itoa(i*i))
	}
	return l
}

// zeros are so many unlike keys of one sum, the empty one first: bytes 00 leave the word 0 as it is.
func zeros(n int) []string {
	var l []string
	for i := range n {
		l = append(l, strings.Repeat("\x00", i))
	}
	return l
}

// letters are the keys a, b, c and so on.
func letters(s string) []string { return strings.Split(s, "") }

// lists are lists of keys: none, one, unlike ones and equal ones, some of one sum, ones that begin at one slot, long ones.
func lists() [][]string {
	l := [][]string{nil, {}, {"a"}, {"b"}, {""}, {"\xff"}, {"a", "b"}, {"b", "a"}, {"a", "a"}, {"", ""}, {"", "a", ""}, {"", "\x00"}, {"\x00a", "a", "\x00\x00a"}, letters("ijot"), letters("tojiaahh"), letters("elwy"), letters("abcdefgh"), letters("abcdefghi"), letters("abcdefghijklmnopq"), {"é", "€", "é", "\xe2\x82", "a\xff\"\n"}}
	for _, n := range []int{1, 2, 3, 4, 5, 7, 8, 9, 15, 16, 17, 31, 32, 33, 63, 64, 65} {
		same := slices.Repeat([]string{"same"}, n)
		l = append(l, names(n), zeros(n), same, append(same, names(n)...), append(names(n), names(n)...))
	}
	return append(l, names(1000), zeros(200), []string{strings.Repeat("k", 1024), strings.Repeat("k", 1025), strings.Repeat("k", 65536), "k"})
}

// others are texts most of which are no key of any list.
func others() []string {
	return append(letters("abcdefghijklmnopqrstuvwxyz"), "", "\x00", "\xff", "é", "€", "\xe2", "k", "k0", "k2", "same", "sam", "Same", strings.Repeat("\x00", 250), strings.Repeat("k", 1024), strings.Repeat("k", 1023)+"l")
}

// cut keeps what a failing test tells readable.
func cut(keys []string) string {
	var l []string
	for _, k := range keys[:min(len(keys), 10)] {
		l = append(l, strconv.Quote(k[:min(len(k), 20)]))
	}
	return strconv.Itoa(len(keys)) + " keys " + strings.Join(l, " ")
}

// 6.1: n below 0, the first ones, powers of two and those beside them, up to 2^40.
func TestSize(t *testing.T) {
	for n, want := range map[int]int{
		math.MinInt: 2, math.MinInt + 1: 2, -1 << 40: 2, -1 << 32: 2, -65536: 2, -3: 2, -2: 2, -1: 2,
		0: 2, 1: 2, 2: 4, 3: 8, 4: 8, 5: 16, 6: 16, 7: 16, 8: 16, 9: 32, 10: 32, 15: 32, 16: 32, 17: 64,
		31: 64, 32: 64, 33: 128, 63: 128, 64: 128, 65: 256, 100: 256, 127: 256, 128: 256, 129: 512, 1000: 2048, 1023: 2048, 1024: 2048, 1025: 4096,
		65535: 131072, 65536: 131072, 65537: 262144, 1000000: 2097152,
		1<<30 - 1: 1 << 31, 1 << 30: 1 << 31, 1<<30 + 1: 1 << 32, 1<<31 - 1: 1 << 32, 1 << 31: 1 << 32, 1<<31 + 1: 1 << 33, 1<<32 - 1: 1 << 33, 1 << 32: 1 << 33, 1<<32 + 1: 1 << 34,
		1 << 39: 1 << 40, 1<<39 + 1: 1 << 41, 1<<40 - 1: 1 << 41, 1 << 40: 1 << 41,
	} {
		if s := Size(n); s != want {
			t.Errorf("Size(%d) = %d, not %d", n, s, want)
		}
	}
}

// 6.1: of all n up to 140000, and of each power of two and those beside it: the least power of two that is enough.
func TestSizeIsLeast(t *testing.T) {
	for n := -300; n <= 140000; n++ {
		if Size(n) != size(n) {
			t.Fatalf("Size(%d) = %d, not %d", n, Size(n), size(n))
		}
	}
	for e := range 41 {
		for _, n := range []int{1<<e - 1, 1 << e, min(1<<e+1, 1<<40), 1<<e - 1<<e/3} {
			s := Size(n)
			if s < 2 || s < 2*n || s&(s-1) != 0 || s > 2 && s/2 >= 2*n {
				t.Errorf("Size(%d) = %d", n, s)
			}
		}
	}
}

// Rule 1: Size ends, and doesn't panic, beyond the n of which the chapter speaks.
func TestSizeEnds(t *testing.T) {
	for e := 41; e < 63; e++ {
		for _, n := range []int{1<<e - 1, 1 << e, 1<<e + 1} {
			Size(n)
		}
	}
	Size(math.MaxInt)
}

// 6.1: tables that were worked out elsewhere.
func TestBuild(t *testing.T) {
	for _, x := range []struct {
		keys []string
		want []int
	}{
		{nil, []int{0, 0}},
		{[]string{}, []int{0, 0}},
		{[]string{"a"}, []int{1, 0}},
		{[]string{"b"}, []int{0, 1}},
		{[]string{""}, []int{1, 0}},
		{[]string{"a", "b"}, []int{0, 0, 1, 2}},
		{[]string{"b", "a"}, []int{0, 0, 2, 1}},
		{[]string{"i", "j"}, []int{2, 0, 0, 1}},
		{[]string{"a", "b", "c"}, []int{0, 3, 1, 2, 0, 0, 0, 0}},
		{[]string{"c", "b", "a"}, []int{0, 1, 3, 2, 0, 0, 0, 0}},
		// These begin at the last slot, all four: three go on at the first one.
		{[]string{"i", "j", "o", "t"}, []int{2, 3, 4, 0, 0, 0, 0, 1}},
		{[]string{"t", "o", "j", "i"}, []int{2, 3, 4, 0, 0, 0, 0, 1}},
		{[]string{"t", "a", "i", "h"}, []int{3, 0, 2, 4, 0, 0, 0, 1}},
		// Equal keys have a slot each.
		{[]string{"a", "a"}, []int{0, 0, 1, 2}},
		{[]string{"b", "b"}, []int{2, 0, 0, 1}},
		{[]string{"a", "a", "a", "a"}, []int{0, 0, 1, 2, 3, 4, 0, 0}},
		{[]string{"a", "a", "b"}, []int{0, 0, 1, 2, 3, 0, 0, 0}},
		{[]string{"b", "a", "a"}, []int{0, 0, 2, 1, 3, 0, 0, 0}},
		{[]string{"a", "b", "a", "c"}, []int{0, 4, 1, 2, 3, 0, 0, 0}},
		{[]string{"i", "a", "i", "a", "i"}, []int{3, 5, 2, 4, 0, 0, 0, 0, 0, 0, 0, 0, 0, 0, 0, 1}},
		{[]string{"b", "b", "b", "b", "b", "a"}, []int{0, 0, 6, 0, 0, 0, 0, 0, 0, 0, 0, 1, 2, 3, 4, 5}},
		{[]string{"", ""}, []int{1, 2, 0, 0}},
		{[]string{"", "a", ""}, []int{1, 3, 2, 0, 0, 0, 0, 0}},
		{[]string{"e", "l", "", "w"}, []int{1, 2, 3, 4, 0, 0, 0, 0}},
		{[]string{"", "\x00", "\x00\x00"}, []int{1, 2, 3, 0, 0, 0, 0, 0}},
		{[]string{"a", "b", "c", "d", "e"}, []int{5, 0, 1, 0, 0, 4, 0, 0, 0, 3, 0, 2, 0, 0, 0, 0}},
		{letters("abcdefgh"), []int{5, 0, 1, 0, 0, 4, 0, 0, 0, 3, 8, 2, 7, 0, 6, 0}},
		{letters("abcdefghi"), []int{0, 0, 1, 0, 0, 4, 0, 0, 0, 0, 8, 7, 0, 0, 6, 9, 5, 0, 0, 0, 0, 0, 0, 0, 0, 3, 0, 2, 0, 0, 0, 0}},
		{letters("bdvxmnsz"), []int{0, 6, 0, 0, 0, 2, 3, 4, 5, 7, 0, 1, 0, 0, 8, 0}},
		{[]string{"é", "€", "key", "keys", "é"}, []int{5, 0, 0, 0, 0, 0, 0, 3, 4, 0, 0, 0, 0, 0, 2, 1}},
		{[]string{"10", "9", "100", "", "aa"}, []int{4, 0, 0, 0, 0, 2, 0, 0, 0, 0, 0, 0, 0, 1, 3, 5}},
	} {
		if l := Build(x.keys); !slices.Equal(l, x.want) {
			t.Errorf("Build(%q) = %v, not %v", x.keys, l, x.want)
		}
	}
}

// 6.1: tables of keys of all kinds, held against the chapter's words.
func TestBuildByTheWords(t *testing.T) {
	for _, keys := range lists() {
		if l, want := Build(keys), table(keys); !slices.Equal(l, want) {
			t.Errorf("Build of %s = %v, not %v", cut(keys), l, want)
		}
	}
}

// 6.1: a table has as many slots as Size says; each place stands in it once.
func TestEachPlaceOnce(t *testing.T) {
	for _, keys := range append(lists(), names(4096), names(4097)) {
		l := Build(keys)
		if len(l) != Size(len(keys)) {
			t.Errorf("Build of %s has %d slots", cut(keys), len(l))
		}
		seen := make([]int, len(keys)+1)
		for _, held := range l {
			seen[held]++
		}
		for i, n := range seen[1:] {
			if n != 1 {
				t.Errorf("Build of %s holds the place %d in %d slots", cut(keys), i, n)
			}
		}
	}
}

// 6.2: looks that were worked out elsewhere, in the tables of the keys; the chapter's example is the first.
func TestFind(t *testing.T) {
	wrap, all := letters("ijot"), letters("abcdefgh")
	for _, x := range []struct {
		keys          []string
		k             string
		place, looked int
	}{
		{nil, "", -1, 1},
		{nil, "a", -1, 1},
		{[]string{}, "b", -1, 1},
		{[]string{"a"}, "a", 0, 1},
		{[]string{"a"}, "", -1, 2},
		{[]string{"a"}, "b", -1, 1},
		{[]string{"a"}, "e", -1, 2},
		{[]string{"b"}, "b", 0, 1},
		{[]string{"b"}, "a", -1, 1},
		{[]string{"b"}, "c", -1, 2},
		{[]string{""}, "", 0, 1},
		{[]string{""}, "a", -1, 2},
		{[]string{""}, "b", -1, 1},
		{[]string{""}, "\x00", -1, 2},
		{[]string{"a", "b"}, "a", 0, 1},
		{[]string{"a", "b"}, "b", 1, 1},
		{[]string{"a", "b"}, "f", -1, 3},
		{[]string{"a", "b"}, "i", -1, 2},
		{[]string{"a", "b"}, "c", -1, 1},
		{[]string{"a", "b"}, "", -1, 1},
		{[]string{"a", "b"}, "aa", -1, 3},
		{wrap, "i", 0, 1}, {wrap, "j", 1, 2}, {wrap, "o", 2, 3}, {wrap, "t", 3, 4},
		{wrap, "", -1, 4}, {wrap, "a", -1, 2}, {wrap, "b", -1, 1}, {wrap, "e", -1, 4}, {wrap, "z", -1, 1},
		{[]string{"a", "a", "b"}, "a", 0, 1},
		{[]string{"a", "a", "b"}, "b", 2, 2},
		{[]string{"a", "a", "b"}, "h", -1, 4},
		{[]string{"a", "a", "b"}, "", -1, 1},
		{[]string{"", "a", ""}, "", 0, 1},
		{[]string{"", "a", ""}, "a", 1, 1},
		{[]string{"", "a", ""}, "e", -1, 4},
		{[]string{"", "a", ""}, "h", -1, 2},
		{[]string{"e", "l", "", "w"}, "e", 0, 1},
		{[]string{"e", "l", "", "w"}, "l", 1, 2},
		{[]string{"e", "l", "", "w"}, "", 2, 3},
		{[]string{"e", "l", "", "w"}, "w", 3, 4},
		{[]string{"e", "l", "", "w"}, "y", -1, 5},
		{[]string{"e", "l", "", "w"}, "a", -1, 3},
		{all, "a", 0, 1}, {all, "e", 4, 1}, {all, "g", 6, 2}, {all, "h", 7, 1},
		{all, "", -1, 2}, {all, "k", -1, 4}, {all, "q", -1, 3}, {all, "i", -1, 1}, {all, "x", -1, 2},
	} {
		if place, looked := Find(Build(x.keys), x.keys, x.k); place != x.place || looked != x.looked {
			t.Errorf("Find(%q, %q) = %d, %d, not %d, %d", x.keys, x.k, place, looked, x.place, x.looked)
		}
	}
}

// 6.2: looks for keys that are there, and for others, held against the chapter's words.
func TestFindByTheWords(t *testing.T) {
	for _, keys := range lists() {
		l := table(keys)
		for _, k := range append(others(), keys...) {
			place, looked := Find(l, keys, k)
			if wantPlace, wantLooked := find(l, keys, k); place != wantPlace || looked != wantLooked {
				t.Errorf("Find(%s, %q) = %d, %d, not %d, %d", cut(keys), k, place, looked, wantPlace, wantLooked)
			}
		}
	}
}

// 6.2: a table that hasn't as many slots as that of as many keys isn't looked at, whatever it holds.
func TestFindInAnotherSize(t *testing.T) {
	for _, keys := range [][]string{nil, {"a"}, {"a", "b"}, letters("abc"), letters("abcd"), letters("abcde"), letters("abcdefgh"), letters("abcdefghi")} {
		for n := range 70 {
			if n == size(len(keys)) {
				continue
			}
			for _, held := range []int{0, 1, -1, len(keys)} {
				l := slices.Repeat([]int{held}, n)
				for _, k := range []string{"", "a", "b", "z"} {
					if place, looked := Find(l, keys, k); place != -1 || looked != 0 {
						t.Errorf("Find in %d slots of %d of %s = %d, %d", n, held, cut(keys), place, looked)
					}
				}
			}
		}
	}
	for _, l := range [][]int{nil, {}, {0}, {0, 0, 0}} {
		if place, looked := Find(l, nil, "a"); place != -1 || looked != 0 {
			t.Errorf("Find(%v, no keys) = %d, %d", l, place, looked)
		}
	}
}

// 6.2: tables that hold other numbers, worked out by hand: of four slots, a's is the third, and b's the last.
func TestFindInOtherTables(t *testing.T) {
	least, most := math.MinInt, math.MaxInt
	ab, aa := []string{"a", "b"}, []string{"a", "a"}
	for _, x := range []struct {
		t             []int
		keys          []string
		k             string
		place, looked int
	}{
		// No slot holds 0, and nothing that leads to the key: all are looked at.
		{[]int{-1, -1, -1, -1}, ab, "a", -1, 4},
		{[]int{2, 2, 2, 2}, ab, "a", -1, 4},
		{[]int{1, 1, 1, 1}, ab, "b", -1, 4},
		{[]int{1, 2, 1, 2}, ab, "c", -1, 4},
		{[]int{3, 3, 3, 3}, ab, "a", -1, 4},
		{[]int{least, most, least, most}, ab, "a", -1, 4},
		{[]int{least, least}, nil, "a", -1, 2},
		{[]int{1, 1}, nil, "", -1, 2},
		{[]int{1, 1}, []string{"a"}, "b", -1, 2},
		// The key is met in the last slot that is looked at.
		{[]int{-1, 1, -1, -1}, ab, "a", 0, 4},
		{[]int{2, 1, 2, 2}, ab, "a", 0, 4},
		{[]int{1, 1, 2, 1}, ab, "b", 1, 4},
		{[]int{9, 1}, []string{"a"}, "a", 0, 2},
		// Other numbers are passed over, below 0 and beyond the places.
		{[]int{0, 0, -1, 1}, ab, "a", 0, 2},
		{[]int{1, 0, -2, 3}, ab, "a", 0, 3},
		{[]int{1, 0, least, most}, ab, "a", 0, 3},
		{[]int{1, 0, least + 1, 1<<32 + 1}, ab, "a", 0, 3},
		{[]int{1, 0, 257, 65537}, ab, "a", 0, 3},
		{[]int{0, 0, -1, 3}, ab, "a", -1, 3},
		{[]int{1, 0, 3, 0}, ab, "a", -1, 2},
		{[]int{0, 2, 3, 3}, ab, "b", -1, 2},
		{[]int{4, 2, 3, 3}, ab, "b", 1, 3},
		// Nothing is looked at behind a 0, also not the key.
		{[]int{1, 1, 0, 1}, ab, "a", -1, 1},
		{[]int{1, 1, 2, 0}, ab, "a", -1, 2},
		{[]int{0, 1, 2, 2}, ab, "a", -1, 3},
		// Of equal keys it is that one whose slot is met first, whichever that is.
		{[]int{0, 0, 2, 1}, aa, "a", 1, 1},
		{[]int{0, 0, 1, 2}, aa, "a", 0, 1},
		{[]int{0, 0, 2, 2}, aa, "a", 1, 1},
		{[]int{1, 0, 3, 2}, aa, "a", 1, 2},
	} {
		if place, looked := Find(x.t, x.keys, x.k); place != x.place || looked != x.looked {
			t.Errorf("Find(%v, %q, %q) = %d, %d, not %d, %d", x.t, x.keys, x.k, place, looked, x.place, x.looked)
		}
	}
}

// 6.2: all tables of four slots that hold numbers about those of the places, held against the chapter's words.
func TestFindInAllTables(t *testing.T) {
	numbers := []int{math.MinInt, -1, 0, 1, 2, 3, math.MaxInt}
	for _, keys := range [][]string{{"a", "b"}, {"a", "a"}, {"i", "j"}, {"", "\x00"}, {"e", ""}} {
		for i := range 7 * 7 * 7 * 7 {
			l := []int{numbers[i%7], numbers[i/7%7], numbers[i/49%7], numbers[i/343]}
			for _, k := range []string{"a", "b", "c", "e", "i", "j", "", "\x00", "z"} {
				place, looked := Find(l, keys, k)
				if wantPlace, wantLooked := find(l, keys, k); place != wantPlace || looked != wantLooked {
					t.Fatalf("Find(%v, %q, %q) = %d, %d, not %d, %d", l, keys, k, place, looked, wantPlace, wantLooked)
				}
			}
		}
	}
}

// 6.2: greater tables without a 0, turned round and laid over with other numbers.
func TestFindInFullTables(t *testing.T) {
	for _, n := range []int{3, 4, 5, 8, 9, 33} {
		keys := names(n)
		for turn := range 3 * size(n) {
			l := make([]int, size(n))
			for at := range l {
				l[at] = (at*7+turn)%(n+5) - 2
				if l[at] == 0 && turn%3 > 0 {
					l[at] = -turn
				}
			}
			for _, k := range append(others(), keys...) {
				place, looked := Find(l, keys, k)
				if wantPlace, wantLooked := find(l, keys, k); place != wantPlace || looked != wantLooked {
					t.Fatalf("Find(%v, %q, %q) = %d, %d, not %d, %d", l, keys, k, place, looked, wantPlace, wantLooked)
				}
			}
		}
	}
}

// 6.3: in its table each key is found at its first place, and no other text is found.
func TestFirstPlace(t *testing.T) {
	for _, keys := range append(lists(), names(5000)) {
		l := Build(keys)
		first := map[string]int{}
		for i, k := range keys {
			if _, ok := first[k]; !ok {
				first[k] = i
			}
		}
		for _, k := range append(others(), keys...) {
			want, ok := first[k]
			if !ok {
				want = -1
			}
			if place, looked := Find(l, keys, k); place != want || looked < 1 || looked > len(l) {
				t.Errorf("Find(%s, %q) = %d, %d, not %d", cut(keys), k, place, looked, want)
			}
		}
	}
}

// 6.3: of unlike keys no more slots are looked at than there are keys, and 1; of those of one sum, just as many.
func TestLooked(t *testing.T) {
	for _, keys := range lists() {
		keys = slices.Compact(slices.Sorted(slices.Values(keys)))
		l := Build(keys)
		for _, k := range append(others(), keys...) {
			if _, looked := Find(l, keys, k); looked > len(keys)+1 {
				t.Errorf("Find(%s, %q) looks at %d slots", cut(keys), k, looked)
			}
		}
	}
	for _, n := range []int{0, 1, 2, 3, 4, 64, 300} {
		keys := zeros(n)
		l := Build(keys)
		for i, k := range keys {
			if place, looked := Find(l, keys, k); place != i || looked != i+1 {
				t.Errorf("of %d keys of one sum, that at %d: %d, %d", n, i, place, looked)
			}
		}
		if place, looked := Find(l, keys, strings.Repeat("\x00", n)); place != -1 || looked != n+1 {
			t.Errorf("of %d keys of one sum, one more: %d, %d", n, place, looked)
		}
	}
}

// Rule 4: what is handed in isn't changed, spare room included; what is handed out is new.
func TestNothingIsShared(t *testing.T) {
	room := append(letters("ijotabca"), "spare", "room")
	keys := room[:8]
	kept := slices.Clone(room)
	one, two := Build(keys), Build(keys)
	for i := range one[:cap(one)] {
		one[:cap(one)][i] = -7
	}
	if !slices.Equal(two, table(keys)) || !slices.Equal(Build(keys), table(keys)) {
		t.Error("two tables share what they hold")
	}
	keys[0] = "x"
	if !slices.Equal(two, table(kept[:8])) {
		t.Error("a table changes with its keys")
	}
	keys[0] = kept[0]
	numbers := append(slices.Clone(two), 5, 6)
	for _, k := range others() {
		Find(numbers[:16], keys, k)
	}
	if !slices.Equal(room, kept) || !slices.Equal(numbers, append(slices.Clone(two), 5, 6)) {
		t.Error("what was handed in is changed")
	}
}

// Ways: a table is made at its whole length, and has no spare room.
func TestNoSpareRoom(t *testing.T) {
	for _, keys := range lists() {
		if l := Build(keys); cap(l) != len(l) {
			t.Errorf("the table of %s has %d slots, and room for %d", cut(keys), len(l), cap(l))
		}
	}
}

// Rule 6: what is answered hangs on the arguments alone.
func TestAgain(t *testing.T) {
	for _, keys := range lists() {
		l := Build(keys)
		place, looked := Find(l, keys, "a")
		Find(Build([]string{"a", "z"}), []string{"a", "z"}, "z")
		copied := slices.Clone(keys)
		again, lookedAgain := Find(slices.Clone(l), copied, strings.Clone("a"))
		if again != place || lookedAgain != looked || !slices.Equal(Build(copied), l) {
			t.Errorf("%s: another answer the second time", cut(keys))
		}
	}
}
