package rank

import (
	"cmp"
	"math"
	"math/rand"
	"slices"
	"strconv"
	"testing"

	"mantelet/api"
)

const (
	most     = uint64(1) << 62
	greatest = uint64(math.MaxUint64)
)

// expectPrune is what P13.1 says of pruning, by the library.
func expectPrune(l []api.Entry, least uint64) []api.Entry {
	return slices.DeleteFunc(slices.Clone(l), func(e api.Entry) bool { return e.Count < least })
}

// unlikeCounts are the unlike counts of entries, each searched for in those that were found.
func unlikeCounts(l []api.Entry) []uint64 {
	var unlike []uint64
	for _, e := range l {
		if !slices.Contains(unlike, e.Count) {
			unlike = append(unlike, e.Count)
		}
	}
	return unlike
}

// expectClasses is what P13.1 says of classes: counts above each entry's own are counted one by one.
func expectClasses(l []api.Entry) []int {
	unlike := unlikeCounts(l)
	classes := make([]int, len(l))
	for i, e := range l {
		for _, n := range unlike {
			if n > e.Count && classes[i] < 255 {
				classes[i]++
			}
		}
	}
	return classes
}

// expectHalf is what P13.1 says of halving, done.
func expectHalf(n uint64) int {
	times := 0
	for ; n != 0; n /= 2 {
		times++
	}
	return times
}

func short[T any](l []T) []T {
	return l[:min(len(l), 12)]
}

// counted are entries of these counts, each of a word of its own.
func counted(counts ...uint64) []api.Entry {
	l := make([]api.Entry, len(counts))
	for i, n := range counts {
		l[i] = api.Entry{Word: "w" + strconv.Itoa(i), Count: n}
	}
	return l
}

// falling are so many unlike counts, one below the other, from one on.
func falling(from uint64, n int) []uint64 {
	counts := make([]uint64, n)
	for i := range counts {
		counts[i] = from - uint64(i)
	}
	return counts
}

// edgesOf are least counts that are near to those of entries, and far off.
func edgesOf(l []api.Entry) []uint64 {
	edges := []uint64{0, 1, 2, most - 1, most, most + 1, 1<<63 - 1, 1 << 63, greatest - 1, greatest}
	for _, n := range short(unlikeCounts(l)) {
		edges = append(edges, n-1, n, n+1)
	}
	slices.Sort(edges)
	return slices.Compact(edges)
}

// checkPrune holds Prune against P13.1, and against R3's first half.
func checkPrune(t *testing.T, name string, l []api.Entry, least uint64) []api.Entry {
	t.Helper()
	was := slices.Clone(l)
	got, want := Prune(l, least), expectPrune(was, least)
	if !slices.Equal(got, want) {
		t.Errorf("%s: Prune(%v, %d) = %v; want %v", name, short(was), least, short(got), short(want))
	}
	if !slices.Equal(l, was) {
		t.Errorf("%s: Prune turned %v to %v", name, short(was), short(l))
	}
	return got
}

// checkClasses holds Classes against P13.1, and against R3's first half.
func checkClasses(t *testing.T, name string, l []api.Entry) []int {
	t.Helper()
	was := slices.Clone(l)
	got, want := Classes(l), expectClasses(was)
	if !slices.Equal(got, want) {
		t.Errorf("%s: Classes(%v) = %v; want %v", name, short(was), got, want)
	}
	if !slices.Equal(l, was) {
		t.Errorf("%s: Classes turned %v to %v", name, short(was), short(l))
	}
	return got
}

// checkOrder holds each two entries' classes against their counts: P13.2's first half.
func checkOrder(t *testing.T, name string, l []api.Entry) {
	t.Helper()
	classes, strict := Classes(l), len(unlikeCounts(l)) <= 256
	if len(classes) != len(l) {
		t.Fatalf("%s: %d classes of %d entries", name, len(classes), len(l))
	}
	for i, a := range l {
		for k, b := range l {
			if a.Count > b.Count && (classes[i] > classes[k] || strict && classes[i] == classes[k]) {
				t.Fatalf("%s: %v has class %d, and %v class %d", name, a, classes[i], b, classes[k])
			}
			if a.Count == b.Count && classes[i] != classes[k] {
				t.Fatalf("%s: %v has class %d, and %v class %d", name, a, classes[i], b, classes[k])
			}
		}
	}
}

// checkTwice holds pruning twice against once: P13.2's second half.
func checkTwice(t *testing.T, name string, l []api.Entry, one, two uint64) {
	t.Helper()
	got, want := Prune(Prune(l, one), two), Prune(l, max(one, two))
	if !slices.Equal(got, want) {
		t.Errorf("%s: pruned by %d and %d: %v; want %v", name, one, two, short(got), short(want))
	}
}

// check holds all that is promised of entries.
func check(t *testing.T, name string, l []api.Entry) {
	t.Helper()
	checkClasses(t, name, l)
	checkOrder(t, name, l)
	edges := edgesOf(l)
	for _, one := range edges {
		checkPrune(t, name, l, one)
		for _, two := range edges {
			checkTwice(t, name, l, one, two)
		}
	}
}

// classed is that entries have the classes that are written out here.
func classed(t *testing.T, name string, l []api.Entry, want ...int) {
	t.Helper()
	check(t, name, l)
	if got := Classes(l); !slices.Equal(got, want) {
		t.Errorf("%s: Classes(%v) = %v; want %v", name, l, got, want)
	}
}

// kept is that of entries those are kept that stand at places that are written out here.
func kept(t *testing.T, name string, l []api.Entry, least uint64, places ...int) {
	t.Helper()
	var want []api.Entry
	for _, at := range places {
		want = append(want, l[at])
	}
	if got := checkPrune(t, name, l, least); !slices.Equal(got, want) {
		t.Errorf("%s: Prune(%v, %d) = %v; want %v", name, l, least, got, want)
	}
}

// P13.1: the chapter's example.
func TestExample(t *testing.T) {
	l := counted(5, 9, 5, 1)
	classed(t, "the example", l, 1, 0, 1, 2)
	kept(t, "the example", l, 5, 0, 1, 2)
}

// P13.1: no entries, and one, of any count.
func TestNoneAndOne(t *testing.T) {
	for _, none := range [][]api.Entry{nil, {}, counted(7, 8)[:0]} {
		classed(t, "none", none)
		for _, least := range []uint64{0, 1, most, greatest} {
			kept(t, "none", none, least)
		}
	}
	for _, n := range []uint64{0, 1, 2, 3, 255, 256, most - 1, most, most + 1, 1<<63 - 1, 1 << 63, greatest - 1, greatest} {
		l := counted(n)
		classed(t, "one", l, 0)
		kept(t, "one, by nothing", l, 0, 0)
		kept(t, "one, by its count", l, n, 0)
		if n > 0 {
			kept(t, "one, by one less", l, n-1, 0)
		}
		if n < greatest {
			kept(t, "one, by one more", l, n+1)
		}
	}
	kept(t, "a count of nothing, by the greatest", counted(0), greatest)
}

// P13.1: least counts of 0, 1, each count that is there, one more, and the greatest, with counts of 0 and the greatest.
func TestLeast(t *testing.T) {
	l := counted(7, 0, greatest, 1, 7, most, 0, 2)
	kept(t, "by 0", l, 0, 0, 1, 2, 3, 4, 5, 6, 7)
	kept(t, "by 1", l, 1, 0, 2, 3, 4, 5, 7)
	kept(t, "by 2", l, 2, 0, 2, 4, 5, 7)
	kept(t, "by 3", l, 3, 0, 2, 4, 5)
	kept(t, "by 7", l, 7, 0, 2, 4, 5)
	kept(t, "by 8", l, 8, 2, 5)
	kept(t, "by the most", l, most, 2, 5)
	kept(t, "by one more than the most", l, most+1, 2)
	kept(t, "by the greatest but one", l, greatest-1, 2)
	kept(t, "by the greatest", l, greatest, 2)
	kept(t, "by the greatest", counted(greatest-1, greatest, 0, greatest), greatest, 1, 3)
	classed(t, "0 and the greatest", l, 2, 5, 0, 4, 2, 1, 5, 3)
	// As int64 the greatest is below 0, and as int32 the last one is 1.
	classed(t, "counts of many bits", counted(greatest, 0, 1<<63, 1<<63-1, most, 1<<32+1), 0, 5, 1, 2, 3, 4)
	kept(t, "counts of many bits", counted(greatest, 0, 1<<63, 1<<63-1, 1<<32+1, 2), 3, 0, 2, 3, 4)
}

// P13.1: entries of one count alone.
func TestOneCount(t *testing.T) {
	for _, n := range []uint64{0, 1, 9, 255, 256, most, greatest} {
		for _, times := range []int{2, 3, 255, 256, 257, 600} {
			l := counted(slices.Repeat([]uint64{n}, times)...)
			classed(t, "one count", l, make([]int, times)...)
			if got := Prune(l, n); !slices.Equal(got, l) {
				t.Errorf("Prune of %d entries of %d keeps %d", times, n, len(got))
			}
			if n < greatest {
				kept(t, "one count, by one more", l, n+1)
			}
		}
	}
}

// orders are entries as they stand, turned round, shuffled, and by their counts, the lowest ones first.
func orders(l []api.Entry) [][]api.Entry {
	back, mixed, rising := slices.Clone(l), slices.Clone(l), slices.Clone(l)
	slices.Reverse(back)
	rand.New(rand.NewSource(1311)).Shuffle(len(mixed), func(i, k int) { mixed[i], mixed[k] = mixed[k], mixed[i] })
	slices.SortStableFunc(rising, func(a, b api.Entry) int { return cmp.Compare(a.Count, b.Count) })
	return [][]api.Entry{l, back, mixed, rising}
}

// P13.1, P13.2: as many unlike counts as there are classes, some less and more, and each of them several times, in whatever order.
func TestUnlikeCounts(t *testing.T) {
	for _, n := range []int{1, 2, 3, 100, 253, 254, 255, 256, 257, 258, 300, 511, 512, 513} {
		for _, times := range []int{1, 2, 3} {
			for _, top := range []uint64{uint64(n - 1), 1000, most, greatest} {
				counts := falling(top, n)
				name := strconv.Itoa(n) + " counts, " + strconv.Itoa(times) + " times"
				for _, l := range orders(counted(slices.Repeat(counts, times)...)) {
					got := checkClasses(t, name, l)
					for i, e := range l {
						// Counts fall one by one, so as many as the top is above one are above it.
						if want := min(int(top-e.Count), 255); i >= len(got) || got[i] != want {
							t.Fatalf("%s: the class of %v among %v: %v", name, e, short(l), short(got))
						}
					}
					checkOrder(t, name, l)
				}
			}
		}
	}
}

// P13.2: with 256 unlike counts all classes are unlike; with more, those from the 256th one on have the same, and no others.
func TestLastClass(t *testing.T) {
	counts := falling(greatest, 258)
	for i, c := range checkClasses(t, "256", counted(counts[:256]...)) {
		if c != i {
			t.Errorf("256: class %d at %d", c, i)
		}
	}
	for _, n := range []int{257, 258} {
		got := checkClasses(t, "above 256", counted(counts[:n]...))
		if got[254] != 254 || slices.ContainsFunc(got[255:n], func(c int) bool { return c != 255 }) {
			t.Errorf("%d: classes %v", n, got[254:])
		}
	}
}

// P13.1: unlike counts are counted, not entries: one that is there often is above others but once.
func TestOftenIsOnce(t *testing.T) {
	classed(t, "often", counted(9, 9, 9, 9, 2, 9, 1, 2, 1), 0, 0, 0, 0, 1, 0, 2, 1, 2)
	l := counted(slices.Concat(slices.Repeat([]uint64{9}, 700), []uint64{2, 1})...)
	if got := checkClasses(t, "700 above", l); got[699] != 0 || got[700] != 1 || got[701] != 2 {
		t.Errorf("700 above: %v", got[699:])
	}
	// Counts are as they stand, however far they are from one another.
	classed(t, "far", counted(1, most, 1000000, greatest), 3, 1, 2, 0)
}

// P13.1: entries in whatever order, also with the same word several times, and with none.
func TestWords(t *testing.T) {
	words := [][]string{
		{"a", "b", "c", "d", "e"},
		{"e", "d", "c", "b", "a"},
		{"a", "a", "a", "a", "a"},
		{"", "", "", "", ""},
		{"a", "", "a", "", "b"},
		{"\xFF", "\x00", "ä", string(make([]byte, 300)), "a"},
	}
	for _, w := range words {
		l := counted(5, 9, 5, 1, 0)
		for i := range l {
			l[i].Word = w[i]
		}
		classed(t, "words", l, 1, 0, 1, 2, 3)
		kept(t, "words", l, 5, 0, 1, 2)
		kept(t, "words", l, 1, 0, 1, 2, 3)
		kept(t, "words", l, 6, 1)
	}
	// The same entry twice is kept twice.
	twice := []api.Entry{{Word: "a", Count: 2}, {Word: "b", Count: 1}, {Word: "a", Count: 2}, {Word: "a", Count: 2}}
	kept(t, "twice", twice, 2, 0, 2, 3)
	classed(t, "twice", twice, 0, 1, 0, 0)
	for _, l := range orders(counted(4, 2, 8, 8, 0, 1, 2, greatest, 3)) {
		check(t, "orders", l)
	}
}

// P13.1: Half of 0, 1, 2, 3, each power of two, one less and one more, and the greatest.
func TestHalf(t *testing.T) {
	halved := func(n uint64, want int) {
		t.Helper()
		if got := Half(n); got != want || got != expectHalf(n) {
			t.Errorf("Half(%d) = %d; want %d", n, got, want)
		}
	}
	for n, want := range []int{0, 1, 2, 2, 3, 3, 3, 3, 4} {
		halved(uint64(n), want)
	}
	for place := range 64 {
		power := uint64(1) << place
		halved(power-1, place)
		halved(power, place+1)
		if place > 0 {
			halved(power+1, place+1)
		}
	}
	halved(most, 63)
	halved(greatest-1, 64)
	halved(greatest, 64)
	for n := range uint64(5000) {
		halved(n, expectHalf(n))
		halved(greatest-n, 64)
	}
}

// P13.2: pruned twice is pruned by the greater one, whichever is the first.
func TestTwice(t *testing.T) {
	l := counted(3, 0, 8, 1, greatest, 5, 5, 2, 8, most)
	for one := range uint64(11) {
		for two := range uint64(11) {
			checkTwice(t, "small ones", l, one, two)
			checkTwice(t, "great ones", l, greatest-one, greatest-two)
			checkTwice(t, "both", l, one, greatest-two)
			checkTwice(t, "both", l, greatest-one, two)
		}
	}
	if got := Prune(Prune(l, 5), 3); !slices.Equal(got, Prune(l, 5)) || len(got) != 6 {
		t.Errorf("by 5 and 3: %v", got)
	}
	if got := Prune(Prune(l, 3), 5); !slices.Equal(got, Prune(l, 5)) {
		t.Errorf("by 3 and 5: %v", got)
	}
}

// R3: what is handed in stays as it is, also what stands behind it in its memory, and what is told is the caller's own.
func TestSharesNothing(t *testing.T) {
	room := counted(4, 2, 8, 1, 77, 78)
	whole := slices.Clone(room)
	l := room[:4]
	for _, least := range []uint64{0, 1, 2, 4, 9} {
		got := checkPrune(t, "within more memory", l, least)
		clear(got)
		_ = append(got, api.Entry{Word: "more", Count: 5}, api.Entry{Word: "more", Count: 6})
		if !slices.Equal(room, whole) {
			t.Fatalf("by %d: turned %v to %v", least, whole, room)
		}
		checkPrune(t, "again", l, least)
	}
	classes := checkClasses(t, "within more memory", l)
	clear(classes)
	_ = append(classes, 7, 8)
	checkClasses(t, "again", l)
	if !slices.Equal(room, whole) {
		t.Fatalf("turned %v to %v", whole, room)
	}
	pruned, classes := Prune(l, 2), Classes(l)
	clear(room)
	if !slices.Equal(pruned, whole[:3]) || !slices.Equal(classes, []int{1, 2, 0, 3}) {
		t.Errorf("what was handed in, turned: %v, %v", pruned, classes)
	}
}

// R4: nothing is kept from call to call, and nothing hangs on the order of a map.
func TestKeepsNothing(t *testing.T) {
	l := counted(falling(400, 300)...)
	want := expectClasses(l)
	for n := range 200 {
		checkClasses(t, "others", counted(falling(greatest, n)...))
		checkPrune(t, "others", counted(falling(500, n)...), 450)
		if got := Classes(l); !slices.Equal(got, want) {
			t.Fatalf("again: %v; want %v", short(got), short(want))
		}
		if got := Prune(l, 391); !slices.Equal(got, l[:10]) {
			t.Fatalf("again: %v; want %v", short(got), short(l))
		}
	}
}

// P13.1, P13.2: entries by chance, of few counts and of many.
func TestAny(t *testing.T) {
	r := rand.New(rand.NewSource(1312))
	for range 600 {
		l := make([]api.Entry, r.Intn(60))
		few := r.Intn(2) == 0
		for i := range l {
			l[i] = api.Entry{Word: string("abc"[r.Intn(3)]), Count: r.Uint64() >> r.Intn(64)}
			if few {
				l[i].Count = uint64(r.Intn(8))
			}
		}
		check(t, "any", l)
		n := r.Uint64() >> r.Intn(64)
		if got, want := Half(n), expectHalf(n); got != want {
			t.Errorf("Half(%d) = %d; want %d", n, got, want)
		}
	}
}

// P1: many entries, of as many unlike counts.
func TestMany(t *testing.T) {
	n := 1 << 18
	l := counted(falling(most, n)...)
	rand.New(rand.NewSource(131)).Shuffle(n, func(i, k int) { l[i], l[k] = l[k], l[i] })
	classes := Classes(l)
	if len(classes) != n {
		t.Fatalf("%d classes of %d", len(classes), n)
	}
	for i, e := range l {
		if want := int(min(most-e.Count, 255)); classes[i] != want {
			t.Fatalf("the class of %v is %d; want %d", e, classes[i], want)
		}
	}
	checkPrune(t, "many", l, most-uint64(n/2))
	if got := Prune(l, most-9); len(got) != 10 {
		t.Errorf("%d are kept", len(got))
	}
}

// P1, P13.1, P13.2: any entries, each told by two bytes, its count near to one that is handed in.
func FuzzEntries(f *testing.F) {
	f.Add([]byte("\x05\x00\x09\x00\x05\x00\x01\x00"), uint64(0), uint64(5), uint64(9))
	f.Add([]byte("\x00\x00\xFF\xFF\x01\x00"), greatest, greatest, uint64(1))
	many := make([]byte, 0, 600)
	for i := range 300 {
		many = append(many, byte(i), byte(i>>8))
	}
	f.Add(many, most, most+7, most+250)
	f.Fuzz(func(t *testing.T, b []byte, from, one, two uint64) {
		b = b[:min(len(b), 1200)]
		var l []api.Entry
		for i := 0; i+1 < len(b); i += 2 {
			l = append(l, api.Entry{Word: string(b[i : i+1]), Count: from + uint64(b[i]) + uint64(b[i+1])<<8})
		}
		checkClasses(t, "any", l)
		checkOrder(t, "any", l)
		checkPrune(t, "any", l, one)
		checkPrune(t, "any", l, two)
		checkTwice(t, "any", l, one, two)
	})
}

// P1, P13.1: any numbers.
func FuzzHalf(f *testing.F) {
	f.Add(uint64(0))
	f.Add(greatest)
	f.Fuzz(func(t *testing.T, n uint64) {
		if got, want := Half(n), expectHalf(n); got != want {
			t.Errorf("Half(%d) = %d; want %d", n, got, want)
		}
	})
}
