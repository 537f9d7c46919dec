package loser

import (
	"bytes"
	"math"
	"math/big"
	"math/rand"
	"slices"
	"strconv"
	"strings"
	"testing"

	"mantelet/api"
	"mantelet/run"
)

const most = uint64(1) << 62

// below is the document's 'rising byte by byte', of two texts.
func below(a, b string) bool {
	for i := range len(a) {
		if i == len(b) {
			return false
		}
		if a[i] != b[i] {
			return a[i] < b[i]
		}
	}
	return len(a) < len(b)
}

// expect is what P11.1 says of lists: each word is put in at its place, and counts are summed without a bound.
func expect(lists [][]api.Entry) ([]api.Entry, api.Errno) {
	if len(lists) > 256 {
		return nil, api.ErrFull
	}
	sums := map[string]*big.Int{}
	for _, l := range lists {
		if err := run.May(l); err != api.OK {
			return nil, err
		}
		for _, e := range l {
			if sums[e.Word] == nil {
				sums[e.Word] = new(big.Int)
			}
			sums[e.Word].Add(sums[e.Word], new(big.Int).SetUint64(e.Count))
		}
	}
	var out []api.Entry
	for word, sum := range sums {
		if sum.Cmp(new(big.Int).Lsh(big.NewInt(1), 62)) > 0 {
			return nil, api.ErrOver
		}
		out = append(out, api.Entry{Word: word, Count: sum.Uint64()})
	}
	slices.SortFunc(out, func(a, b api.Entry) int {
		if below(a.Word, b.Word) {
			return -1
		}
		return 1
	})
	return out, api.OK
}

// expectRuns is what P11.2 says of runs.
func expectRuns(runs [][]byte, size int) ([]byte, api.Errno) {
	var lists [][]api.Entry
	for _, b := range runs {
		l, err := run.Decode(b)
		if err != api.OK {
			return nil, api.ErrForm
		}
		lists = append(lists, l)
	}
	l, err := expect(lists)
	if err != api.OK {
		return nil, err
	}
	return run.Encode(l, size)
}

// cloned are lists, none of which shares anything with those.
func cloned(lists [][]api.Entry) [][]api.Entry {
	out := make([][]api.Entry, len(lists))
	for i, l := range lists {
		out[i] = slices.Clone(l)
	}
	return out
}

func sameLists(a, b [][]api.Entry) bool {
	return slices.EqualFunc(a, b, slices.Equal)
}

func short[T any](l []T) []T {
	return l[:min(len(l), 12)]
}

// checkMerge holds Merge against P11.1, so R1 as well, and R3's first half.
func checkMerge(t *testing.T, name string, lists [][]api.Entry) ([]api.Entry, api.Errno) {
	t.Helper()
	was := cloned(lists)
	want, wantErr := expect(was)
	got, err := Merge(lists)
	if !slices.Equal(got, want) || err != wantErr {
		t.Errorf("%s: Merge(%v) = %v, %d; want %v, %d", name, short(was), short(got), err, short(want), wantErr)
	}
	if !sameLists(lists, was) {
		t.Errorf("%s: Merge turned %v", name, short(was))
	}
	return got, err
}

// checkRuns holds Runs against P11.2, so R1 as well, and R3's first half.
func checkRuns(t *testing.T, name string, runs [][]byte, size int) ([]byte, api.Errno) {
	t.Helper()
	was := make([][]byte, len(runs))
	for i, b := range runs {
		was[i] = bytes.Clone(b)
	}
	want, wantErr := expectRuns(was, size)
	got, err := Runs(runs, size)
	if !bytes.Equal(got, want) || err != wantErr {
		t.Errorf("%s: Runs(%v, %d) = %v, %d; want %v, %d", name, short(was), size, short(got), err, short(want), wantErr)
	}
	if !slices.EqualFunc(runs, was, bytes.Equal) {
		t.Errorf("%s: Runs turned %v", name, short(was))
	}
	return got, err
}

// told is that lists are merged as what is written out here.
func told(t *testing.T, name string, lists [][]api.Entry, want ...api.Entry) {
	t.Helper()
	if got, err := checkMerge(t, name, lists); !slices.Equal(got, want) || err != api.OK {
		t.Errorf("%s: %v, %d; want %v", name, short(got), err, short(want))
	}
}

// refused is that lists are merged as an error alone.
func refused(t *testing.T, name string, lists [][]api.Entry, want api.Errno) {
	t.Helper()
	if got, err := checkMerge(t, name, lists); len(got) != 0 || err != want {
		t.Errorf("%s: %v, %d; want nothing, %d", name, short(got), err, want)
	}
}

// refusedRuns is that runs are merged as an error alone.
func refusedRuns(t *testing.T, name string, runs [][]byte, size int, want api.Errno) {
	t.Helper()
	if got, err := checkRuns(t, name, runs, size); len(got) != 0 || err != want {
		t.Errorf("%s, size %d: %v, %d; want nothing, %d", name, size, short(got), err, want)
	}
}

func entry(word string, count uint64) api.Entry {
	return api.Entry{Word: word, Count: count}
}

func list(l ...api.Entry) []api.Entry {
	return l
}

func many(n int, l []api.Entry) [][]api.Entry {
	return slices.Repeat([][]api.Entry{l}, n)
}

// with are lists, and one of them at a place instead of that which stands there.
func with(lists [][]api.Entry, at int, l []api.Entry) [][]api.Entry {
	out := slices.Clone(lists)
	out[at] = l
	return out
}

func encode(t *testing.T, l []api.Entry, size int) []byte {
	t.Helper()
	b, err := run.Encode(l, size)
	if err != api.OK {
		t.Fatalf("run.Encode: %d", err)
	}
	return b
}

// encodeAll are lists as runs, in blocks of unlike sizes.
func encodeAll(t *testing.T, lists [][]api.Entry) [][]byte {
	t.Helper()
	var runs [][]byte
	for i, l := range lists {
		runs = append(runs, encode(t, l, []int{1, 2, 3, 255, 7}[i%5]))
	}
	return runs
}

// random are lists of words over few bytes, so that they often are the same, or begin alike.
func random(r *rand.Rand, n, words int) [][]api.Entry {
	lists := make([][]api.Entry, n)
	for i := range lists {
		sums := map[string]uint64{}
		for range r.Intn(words + 1) {
			b := make([]byte, 1+r.Intn(4))
			for k := range b {
				b[k] = "\x00ab\xFF"[r.Intn(4)]
			}
			sums[string(b)] = 1 + r.Uint64()>>(10+r.Intn(54))
		}
		for word, sum := range sums {
			lists[i] = append(lists[i], entry(word, sum))
		}
		slices.SortFunc(lists[i], func(a, b api.Entry) int { return strings.Compare(a.Word, b.Word) })
	}
	return lists
}

// faults are lists that may not be, with run.May's error of each.
func faults() map[api.Errno][][]api.Entry {
	a, b := entry("a", 1), entry("b", 1)
	return map[api.Errno][][]api.Entry{
		api.ErrArg: {
			list(entry("", 1)),
			list(entry("a", 0)),
			list(entry("a", most+1)),
			list(entry("a", math.MaxUint64)),
			list(entry(strings.Repeat("a", 256), 1)),
			list(a, b, entry("c", 0)),
			list(b, a, entry("c", 0)),
			list(entry("", 0), b, a),
		},
		api.ErrOrder: {
			list(b, a),
			list(a, a),
			list(a, entry("ab", 1), b, entry("ab", 1)),
			list(entry("ä", 1), entry("z", 1)),
		},
	}
}

// P11.1: the chapter's example, as lists and as runs.
func TestExample(t *testing.T) {
	lists := [][]api.Entry{list(entry("a", 1), entry("b", 2)), list(entry("b", 3))}
	want := list(entry("a", 1), entry("b", 5))
	told(t, "the example", lists, want...)
	for _, size := range []int{1, 2, 255} {
		b, err := checkRuns(t, "the example", encodeAll(t, lists), size)
		if !bytes.Equal(b, encode(t, want, size)) || err != api.OK {
			t.Errorf("size %d: %v, %d", size, b, err)
		}
	}
}

// P11.1: no lists, one, two, and each number up to the most.
func TestNumbersOfLists(t *testing.T) {
	told(t, "nil", nil)
	told(t, "none", [][]api.Entry{})
	one := list(entry("a", 3), entry("ab", most), entry("ä", 1))
	told(t, "one", [][]api.Entry{one}, one...)
	told(t, "one, and nothing", [][]api.Entry{one, nil}, one...)
	told(t, "two, unlike", [][]api.Entry{list(entry("b", 2)), list(entry("a", 1))}, entry("a", 1), entry("b", 2))
	told(t, "two, alike", many(2, list(entry("a", 1), entry("b", 2))), entry("a", 2), entry("b", 4))
	for n := range 257 {
		var lists [][]api.Entry
		for i := range n {
			// A word that all have, one of each list alone, and one that only each third list has.
			l := list(entry("all", 1), entry("one"+strconv.Itoa(1000-i), uint64(i+1)))
			if i%3 == 0 {
				l = append(l, entry("third", 2))
			}
			lists = append(lists, l)
		}
		got, err := checkMerge(t, strconv.Itoa(n), lists)
		if n > 0 && (err != api.OK || len(got) != n+2 || got[0].Count != uint64(n) || got[n+1].Count != uint64(n+2)/3*2) {
			t.Errorf("%d lists: %v, %d", n, short(got), err)
		}
	}
}

// P11.1: of more than 256 lists ErrFull, ahead of all else.
func TestTooManyLists(t *testing.T) {
	for _, n := range []int{257, 258, 511, 512, 513, 5000} {
		refused(t, "of nothing", many(n, nil), api.ErrFull)
		refused(t, "of a word", many(n, list(entry("a", 1))), api.ErrFull)
		refused(t, "of counts too great", many(n, list(entry("a", most))), api.ErrFull)
		for _, l := range faults() {
			for _, fault := range l {
				refused(t, "that may not be", many(n, fault), api.ErrFull)
				for _, at := range []int{0, 255, 256, n - 1} {
					refused(t, "one of which may not be", with(make([][]api.Entry, n), at, fault), api.ErrFull)
				}
			}
		}
	}
	told(t, "256 of nothing", many(256, nil))
	told(t, "256 of a word", many(256, list(entry("a", 1))), entry("a", 256))
	refused(t, "256 of counts too great", many(256, list(entry("a", most))), api.ErrOver)
	refused(t, "256 that may not be", many(256, list(entry("a", 0))), api.ErrArg)
}

// P11.1: lists of nothing, at each place among others, and alone.
func TestListsOfNothing(t *testing.T) {
	lists := [][]api.Entry{list(entry("b", 1)), list(entry("a", 2), entry("c", 1)), list(entry("b", 3), entry("d", 4))}
	want := list(entry("a", 2), entry("b", 4), entry("c", 1), entry("d", 4))
	for at := range len(lists) + 1 {
		for n := range 20 {
			for _, nothing := range [][]api.Entry{nil, {}} {
				told(t, "nothing at "+strconv.Itoa(at), slices.Insert(slices.Clone(lists), at, many(n, nothing)...), want...)
			}
		}
	}
	for n := range 257 {
		told(t, "nothing alone", many(n, nil))
		told(t, "nothing alone", many(n, list()))
		if n > 0 {
			told(t, "nothing but one", with(many(n, nil), n/2, want), want...)
		}
	}
}

// P11.1: a list that may not be, wherever it stands, and also where counts are too great.
func TestListThatMayNotBe(t *testing.T) {
	fine, full := list(entry("a", 1), entry("b", 1)), list(entry("a", most))
	for want, l := range faults() {
		for _, fault := range l {
			for _, n := range []int{1, 2, 3, 4, 5, 255, 256} {
				for _, at := range []int{0, 1, 2, 3, 4, n / 2, n - 2, n - 1} {
					if at < 0 || at >= n {
						continue
					}
					refused(t, "among lists of nothing", with(many(n, nil), at, fault), want)
					refused(t, "among lists", with(many(n, fine), at, fault), want)
					refused(t, "with counts too great", with(many(n, full), at, fault), want)
				}
			}
		}
	}
}

// P11.1: of two lists that may not be, the first one's error.
func TestFirstListThatMayNotBe(t *testing.T) {
	for want, l := range faults() {
		for _, first := range l {
			for _, others := range faults() {
				for _, other := range others {
					for at := range 6 {
						for next := at + 1; next < 7; next++ {
							lists := with(many(7, list(entry("a", most))), at, first)
							refused(t, "the first of two", with(lists, next, other), want)
						}
					}
				}
			}
		}
	}
}

// P11.1: counts together at 2^62, and one more, of two lists.
func TestCountsOfTwo(t *testing.T) {
	for _, c := range []uint64{1, 2, 3, 1 << 31, 1 << 32, 1<<61 - 1, 1 << 61, 1<<61 + 1, most - 2, most - 1} {
		told(t, "at the most", [][]api.Entry{list(entry("a", c)), list(entry("a", most-c))}, entry("a", most))
		told(t, "one below", [][]api.Entry{list(entry("a", c)), list(entry("a", most-c), entry("b", 1))}, entry("a", most), entry("b", 1))
		refused(t, "one more", [][]api.Entry{list(entry("a", c+1)), list(entry("a", most-c))}, api.ErrOver)
		refused(t, "one more", [][]api.Entry{list(entry("a", c)), list(entry("a", most-c+1))}, api.ErrOver)
		refused(t, "twice the most", many(2, list(entry("a", most))), api.ErrOver)
	}
	told(t, "the most, of unlike words", [][]api.Entry{list(entry("a", most)), list(entry("b", most))}, entry("a", most), entry("b", most))
	told(t, "the most, and nothing", [][]api.Entry{nil, list(entry("a", most)), {}}, entry("a", most))
}

// P11.1: counts together at 2^62, and one more, of many lists; also where 64 bits would wrap round.
func TestCountsOfMany(t *testing.T) {
	for n := 3; n <= 256; n++ {
		part := most / uint64(n)
		lists := many(n, list(entry("a", part), entry("b", 1)))
		for _, at := range []int{0, 1, n / 2, n - 1} {
			told(t, "at the most", with(lists, at, list(entry("a", part+most%uint64(n)), entry("b", 1))), entry("a", most), entry("b", uint64(n)))
			refused(t, "one more", with(lists, at, list(entry("a", part+most%uint64(n)+1), entry("b", 1))), api.ErrOver)
		}
		refused(t, "the most of each", many(n, list(entry("a", most))), api.ErrOver)
	}
}

// P11.1: the word of which there is too much stands first, in the middle, or last, and in lists of each two places.
func TestWhichIsTooMuch(t *testing.T) {
	var fine []api.Entry
	for _, word := range []string{"a", "b", "c", "d", "e"} {
		fine = append(fine, entry(word, 1))
	}
	for word := range fine {
		rich := slices.Clone(fine)
		rich[word].Count = most / 2
		for one := range 6 {
			for two := one + 1; two < 6; two++ {
				refused(t, "with what others have", with(with(many(6, fine), one, rich), two, rich), api.ErrOver)
				want := slices.Clone(fine)
				for i := range want {
					want[i].Count = 2
				}
				want[word].Count = most
				told(t, "at the most", with(with(many(6, nil), one, rich), two, rich), want...)
			}
		}
	}
}

// P11.1: words that begin alike, that one begins another, of bytes above 127, of 0, and as long as can be.
func TestWords(t *testing.T) {
	long := strings.Repeat("a", 254)
	words := []string{
		"\x00", "\x00\x00", "\x00\xFF", "\x01", "A", "a", "a\x00", "aa", long, long + "\x00", long + "a", long + "\xFF", "ab", "abc", "ab\x80", "b",
		"z", "\x7F", "\x7F\xFF", "\x80", "\x80\x00", "\xC3", "ä", "äa", "ö", "日", "日本", "\xFE", "\xFF", "\xFF\x00", "\xFF\xFF",
	}
	for i := 1; i < len(words); i++ {
		if !below(words[i-1], words[i]) {
			t.Fatalf("%q isn't below %q", words[i-1], words[i])
		}
	}
	var want []api.Entry
	one := make([][]api.Entry, len(words)) // each word in a list of its own, the greatest ones first
	deal := make([][]api.Entry, 3)         // each word in one of three, in turn
	all := make([][]api.Entry, 3)          // each word in all of three
	for i, word := range words {
		e := entry(word, uint64(3*i+3))
		want = append(want, e)
		one[len(words)-1-i] = list(e)
		deal[i%3] = append(deal[i%3], e)
		for k := range all {
			all[k] = append(all[k], entry(word, uint64(i+1)))
		}
	}
	told(t, "one word a list", one, want...)
	told(t, "in turn", deal, want...)
	told(t, "in all", all, want...)
	for i, a := range words {
		for _, b := range words[i+1:] {
			told(t, "two words", [][]api.Entry{list(entry(a, 1)), list(entry(b, 2))}, entry(a, 1), entry(b, 2))
			told(t, "two words", [][]api.Entry{list(entry(b, 2)), list(entry(a, 1))}, entry(a, 1), entry(b, 2))
			told(t, "two words, and one of them", [][]api.Entry{list(entry(a, 1), entry(b, 2)), list(entry(b, 3))}, entry(a, 1), entry(b, 5))
			told(t, "two words, and one of them", [][]api.Entry{list(entry(a, 1)), list(entry(a, 1), entry(b, 2))}, entry(a, 2), entry(b, 2))
		}
	}
}

// P11.1: lists that are behind at once, or long after each other.
func TestUnlikeLengths(t *testing.T) {
	var l []api.Entry
	for i := range 300 {
		l = append(l, entry("w"+strconv.Itoa(1000+i), uint64(i+1)))
	}
	for n := 1; n < 20; n++ {
		var parts, begins, ends [][]api.Entry
		for i := range n {
			from, to := i*len(l)/n, (i+1)*len(l)/n
			parts = append(parts, l[from:to])
			begins = append(begins, l[:to])
			ends = append(ends, l[from:])
		}
		told(t, "in parts", parts, l...)
		slices.Reverse(parts)
		told(t, "in parts, the last one first", parts, l...)
		checkMerge(t, "begins", begins)
		checkMerge(t, "ends", ends)
	}
}

// R3: lists stay as they are, also what stands behind them in their memory, and share nothing with what is told.
func TestSharesNothing(t *testing.T) {
	room := list(entry("a", 1), entry("b", 2), entry("kept", 3), entry("kept", 4))
	rooms := [][]api.Entry{room[:2], list(entry("b", 5)), {entry("kept", 6)}}
	lists := rooms[:2]
	for _, lists := range [][][]api.Entry{lists, lists[:1], {room[:2], room[:2], room[:1]}} {
		got, _ := checkMerge(t, "within more memory", lists)
		want := slices.Clone(got)
		got[0] = entry("turned", 7)
		_ = append(got[:1], entry("turned", 8), entry("turned", 9), entry("turned", 10))
		if again, err := Merge(lists); !slices.Equal(again, want) || err != api.OK {
			t.Errorf("what was told, turned: %v, %d; want %v", again, err, want)
		}
		if !slices.Equal(room, list(entry("a", 1), entry("b", 2), entry("kept", 3), entry("kept", 4))) || !sameLists(rooms[2:], [][]api.Entry{{entry("kept", 6)}}) {
			t.Errorf("turned: %v, %v", room, rooms)
		}
	}
	got, _ := Merge(lists)
	want := slices.Clone(got)
	clear(room)
	clear(rooms[1])
	clear(rooms)
	if !slices.Equal(got, want) {
		t.Errorf("lists, turned: %v, want %v", got, want)
	}
}

// R3: runs stay as they are, and share nothing with what is told.
func TestRunsShareNothing(t *testing.T) {
	lists := [][]api.Entry{list(entry("a", 1), entry("b", 2)), list(entry("b", 5))}
	for n := range len(lists) + 1 {
		runs := encodeAll(t, lists[:n])
		got, _ := checkRuns(t, "runs", runs, 2)
		want := bytes.Clone(got)
		clear(got)
		if again, err := Runs(runs, 2); !bytes.Equal(again, want) || err != api.OK {
			t.Errorf("what was told, turned: %v, %d; want %v", again, err, want)
		}
		got, _ = Runs(runs, 2)
		for _, b := range runs {
			clear(b)
		}
		if !bytes.Equal(got, want) {
			t.Errorf("runs, turned: %v, want %v", got, want)
		}
	}
}

// R4: what is told hangs on nothing that was told before, errors among it.
func TestKeepsNothing(t *testing.T) {
	lists := [][]api.Entry{list(entry("a", 1), entry("b", 2)), list(entry("b", 3))}
	runs := encodeAll(t, lists)
	for range 5 {
		told(t, "again", lists, entry("a", 1), entry("b", 5))
		refused(t, "too much", many(2, list(entry("a", most), entry("b", most))), api.ErrOver)
		refused(t, "not rising", [][]api.Entry{list(entry("b", 1), entry("a", 1))}, api.ErrOrder)
		if b, err := checkRuns(t, "again", runs, 3); !bytes.Equal(b, encode(t, list(entry("a", 1), entry("b", 5)), 3)) || err != api.OK {
			t.Errorf("again: %v, %d", b, err)
		}
		refusedRuns(t, "no run", [][]byte{runs[0], {1}}, 3, api.ErrForm)
	}
}

// P11.2: no runs, runs of no entries, one and many, of unlike sizes, in blocks of each edge.
func TestRuns(t *testing.T) {
	r := rand.New(rand.NewSource(112))
	samples := [][][]api.Entry{nil, {nil}, {nil, nil, nil}, many(256, nil), random(r, 1, 9), random(r, 2, 9), random(r, 5, 300), random(r, 256, 5)}
	for i, lists := range samples {
		runs := encodeAll(t, lists)
		want, _ := expect(lists)
		for _, size := range []int{1, 2, 3, 127, 128, 254, 255} {
			b, err := checkRuns(t, strconv.Itoa(i), runs, size)
			if err != api.OK {
				t.Errorf("%d, size %d: %d", i, size, err)
			}
			if l, err := run.Decode(b); !slices.Equal(l, want) || err != api.OK {
				t.Errorf("%d, size %d: holds %v, %d; want %v", i, size, short(l), err, short(want))
			}
		}
		for _, size := range []int{math.MinInt, -255, -1, 0, 256, 257, 512, 1 << 16, math.MaxInt} {
			refusedRuns(t, strconv.Itoa(i), runs, size, api.ErrArg)
		}
	}
	none := encode(t, nil, 9)
	for _, runs := range [][][]byte{nil, {}, {none}, {none, encode(t, nil, 1)}} {
		if b, err := checkRuns(t, "of no entries", runs, 9); !bytes.Equal(b, none) || err != api.OK {
			t.Errorf("%v: %v, %d; want %v", runs, b, err, none)
		}
	}
}

// P11.2: one run is told in blocks of the size that is asked for, whatever its own is.
func TestSizesOfOne(t *testing.T) {
	l := random(rand.New(rand.NewSource(11)), 1, 400)[0]
	for _, of := range []int{1, 2, 3, 100, 255} {
		for size := 1; size <= 255; size++ {
			b, err := Runs([][]byte{encode(t, l, of)}, size)
			if !bytes.Equal(b, encode(t, l, size)) || err != api.OK {
				t.Errorf("of %d, in blocks of %d: %v, %d", of, size, short(b), err)
			}
		}
	}
}

// P11.2: bytes that are no run, at each place, ahead of all other errors.
func TestNoRun(t *testing.T) {
	fine := encode(t, list(entry("a", 1), entry("b", 2), entry("c", 3)), 2)
	full := encode(t, list(entry("a", most)), 1)
	turned := bytes.Clone(fine)
	turned[len(turned)/2] ^= 1
	none := [][]byte{nil, {}, {0}, []byte("run"), fine[1:], fine[:len(fine)-1], turned, append(bytes.Clone(fine), 0), slices.Concat(fine, fine)}
	for _, n := range []int{1, 2, 3, 4, 256, 257, 300} {
		for _, b := range none {
			for _, beside := range [][]byte{fine, full} {
				for _, at := range []int{0, 1, 2, 3, n / 2, n - 1} {
					if at >= n {
						continue
					}
					runs := slices.Repeat([][]byte{beside}, n)
					runs[at] = b
					for _, size := range []int{-1, 0, 1, 255, 256} {
						refusedRuns(t, "at "+strconv.Itoa(at)+" of "+strconv.Itoa(n), runs, size, api.ErrForm)
					}
				}
			}
		}
	}
}

// P11.2: a run cut at each place, and with another byte at each place.
func TestTurnedRuns(t *testing.T) {
	one := encode(t, list(entry("a", 1), entry("ab", 2)), 2)
	two := encode(t, list(entry("a", 1), entry("b", most-1)), 1)
	for at := range two {
		refusedRuns(t, "cut", [][]byte{one, two[:at]}, 7, api.ErrForm)
		refusedRuns(t, "cut", [][]byte{two[:at], one}, 0, api.ErrForm)
		for _, bit := range []byte{1, 16, 128} {
			b := bytes.Clone(two)
			b[at] ^= bit
			refusedRuns(t, "turned", [][]byte{b, one}, 7, api.ErrForm)
			refusedRuns(t, "turned", [][]byte{one, b}, 0, api.ErrForm)
		}
	}
}

// P11.2: Merge's error of what the runs hold, ahead of that of the size.
func TestMergesError(t *testing.T) {
	for _, size := range []int{-1, 0, 1, 2, 255, 256} {
		full, one := list(entry("a", most)), list(entry("a", 1), entry("b", 1))
		refusedRuns(t, "one more", encodeAll(t, [][]api.Entry{full, one}), size, api.ErrOver)
		refusedRuns(t, "one more", encodeAll(t, [][]api.Entry{one, nil, full}), size, api.ErrOver)
		refusedRuns(t, "many of the most", encodeAll(t, many(256, full)), size, api.ErrOver)
		refusedRuns(t, "too many", encodeAll(t, many(257, one)), size, api.ErrFull)
		refusedRuns(t, "too many of nothing", encodeAll(t, many(257, nil)), size, api.ErrFull)
		refusedRuns(t, "too many of the most", encodeAll(t, many(300, full)), size, api.ErrFull)
	}
	half := list(entry("a", most/2))
	if b, err := checkRuns(t, "at the most", encodeAll(t, many(2, half)), 1); !bytes.Equal(b, encode(t, list(entry("a", most)), 1)) || err != api.OK {
		t.Errorf("at the most: %v, %d", b, err)
	}
}

// orders hands on each order of lists.
func orders(lists [][]api.Entry, at int, each func([][]api.Entry)) {
	if at == len(lists) {
		each(lists)
		return
	}
	for i := at; i < len(lists); i++ {
		lists[at], lists[i] = lists[i], lists[at]
		orders(lists, at+1, each)
		lists[at], lists[i] = lists[i], lists[at]
	}
}

// inGroups merges lists in groups, and what these tell, all in any turn, until all is merged; some lists of nothing among them.
func inGroups(r *rand.Rand, lists [][]api.Entry) ([]api.Entry, api.Errno) {
	left := slices.Clone(lists)
	for len(left) > 1 {
		r.Shuffle(len(left), func(i, k int) { left[i], left[k] = left[k], left[i] })
		n := 1 + r.Intn(len(left))
		group, err := Merge(left[:n])
		if err != api.OK {
			return nil, err
		}
		left = append(left[n:], group)
		if r.Intn(4) == 0 && n > 2 {
			left = append(left, nil)
		}
	}
	return Merge(left)
}

// samplesOfOrders are lists, also those that are too much together, where some of them alone are not.
func samplesOfOrders() [][][]api.Entry {
	r := rand.New(rand.NewSource(113))
	a, third := list(entry("a", 1), entry("b", 2)), list(entry("a", most/3), entry("c", 1))
	return [][][]api.Entry{
		{a, third, nil, a, list(entry("b", most-4))},
		{a, third, third, a, third},
		{third, third, third, third, a},
		{list(entry("a", most-4)), a, a, a, a, nil},
		{list(entry("a", most-4)), a, a, a, a, a},
		random(r, 5, 20), random(r, 6, 6), random(r, 6, 60),
	}
}

// P11.3: in whatever order lists stand, the same is told, as lists and as runs.
func TestOrders(t *testing.T) {
	for i, lists := range samplesOfOrders() {
		want, wantErr := checkMerge(t, "all at once", lists)
		wantRun, _ := checkRuns(t, "all at once", encodeAll(t, lists), 3)
		orders(slices.Clone(lists), 0, func(lists [][]api.Entry) {
			if got, err := Merge(lists); !slices.Equal(got, want) || err != wantErr {
				t.Errorf("%d: Merge(%v) = %v, %d; want %v, %d", i, lists, got, err, want, wantErr)
			}
			if got, err := Runs(encodeAll(t, lists), 3); !bytes.Equal(got, wantRun) || err != wantErr {
				t.Errorf("%d: Runs of %v: %v, %d; want %v, %d", i, lists, got, err, wantRun, wantErr)
			}
		})
	}
}

// P11.3: two groups, of each choice of lists.
func TestTwoGroups(t *testing.T) {
	for i, lists := range samplesOfOrders() {
		want, wantErr := checkMerge(t, "all at once", lists)
		for choice := range 1 << len(lists) {
			var groups [2][][]api.Entry
			for k, l := range lists {
				groups[choice>>k&1] = append(groups[choice>>k&1], l)
			}
			one, err := Merge(groups[0])
			two, err2 := Merge(groups[1])
			var got []api.Entry
			if err == api.OK && err2 == api.OK {
				got, err = Merge([][]api.Entry{one, two})
			}
			if !slices.Equal(got, want) || max(err, err2) != wantErr {
				t.Errorf("%d, groups %v: %v, %d, %d; want %v, %d", i, groups, got, err, err2, want, wantErr)
			}
		}
	}
}

// P11.3: groups of groups, in any turn.
func TestGroupsOfGroups(t *testing.T) {
	r := rand.New(rand.NewSource(1131))
	samples := append(samplesOfOrders(), random(r, 40, 9), random(r, 256, 4))
	for i, lists := range samples {
		want, wantErr := checkMerge(t, "all at once", lists)
		for range 50 {
			if got, err := inGroups(r, lists); !slices.Equal(got, want) || err != wantErr {
				t.Errorf("%d: in groups %v, %d; want %v, %d", i, short(got), err, short(want), wantErr)
			}
		}
	}
}

// P11.3: runs merged in groups before are, at the end, the very bytes of all at once.
func TestGroupsOfRuns(t *testing.T) {
	r := rand.New(rand.NewSource(1132))
	for range 100 {
		runs := encodeAll(t, random(r, 2+r.Intn(30), 20))
		want, wantErr := checkRuns(t, "all at once", runs, 5)
		left, err := runs, api.OK
		for len(left) > 1 && err == api.OK {
			n := 1 + r.Intn(len(left))
			var group []byte
			group, err = Runs(left[:n], 1+r.Intn(255))
			left = append(slices.Clone(left[n:]), group)
		}
		var got []byte
		if err == api.OK {
			got, err = Runs(left, 5)
		}
		if !bytes.Equal(got, want) || err != wantErr {
			t.Errorf("in groups %v, %d; want %v, %d", short(got), err, short(want), wantErr)
		}
	}
}

// P1: many entries, of as many lists as can be, and of one that is long among short ones.
func TestMany(t *testing.T) {
	lists := make([][]api.Entry, 256)
	for i := range 300000 {
		at := i * 7 % len(lists)
		lists[at] = append(lists[at], entry("w"+strconv.Itoa(1000000+i/2), 1))
	}
	checkMerge(t, "as many as can be", lists)
	var long []api.Entry
	for i := range 300000 {
		long = append(long, entry("w"+strconv.Itoa(1000000+i), 1))
	}
	checkMerge(t, "a long one", with(lists[:3], 1, long))
	checkRuns(t, "a long one", [][]byte{encode(t, long, 255), encode(t, long[5000:], 100), encode(t, nil, 1)}, 255)
}

// P11.1, P11.2: lists by chance.
func TestAny(t *testing.T) {
	r := rand.New(rand.NewSource(1111))
	for range 3000 {
		lists := random(r, r.Intn(20), 1+r.Intn(30))
		checkMerge(t, "any", lists)
		checkRuns(t, "any", encodeAll(t, lists), r.Intn(258)-1)
	}
}

// listsOf are lists told by bytes: of each entry its word's length, the word, and its count, small, or near its bounds; a length of 0 and then 255 ends a list.
func listsOf(b []byte) [][]api.Entry {
	lists := [][]api.Entry{nil}
	for len(b) >= 2 {
		n := min(int(b[0]%5), len(b)-2)
		word, c := string(b[1:1+n]), b[1+n]
		b = b[2+n:]
		last := len(lists) - 1
		switch {
		case n == 0 && c == 255:
			lists = append(lists, nil)
		case c < 200:
			lists[last] = append(lists[last], entry(word, uint64(c)))
		default:
			lists[last] = append(lists[last], entry(word, most-uint64(c-200)*(most/32)))
		}
	}
	return lists
}

// P1, P11.1, P11.2, P11.3: any lists, as they are, and risen; and the same as runs.
func FuzzMerge(f *testing.F) {
	f.Add([]byte("\x01a\x01\x01b\x02\x00\xFF\x01b\x03"), 2)
	f.Add([]byte("\x01a\xC8\x00\xFF\x01a\x01\x00\xFF\x02ab\x00"), 0)
	f.Add([]byte("\x01b\x01\x01a\x01\x00\xFF\x00\xFF\x01\xFF\xF0"), 256)
	f.Fuzz(func(t *testing.T, b []byte, size int) {
		lists := listsOf(b)
		checkMerge(t, "as they are", lists)
		for i, l := range lists {
			slices.SortStableFunc(l, func(a, b api.Entry) int { return strings.Compare(a.Word, b.Word) })
			l = slices.CompactFunc(l, func(a, b api.Entry) bool { return a.Word == b.Word })
			lists[i] = slices.DeleteFunc(l, func(e api.Entry) bool { return run.May(list(e)) != api.OK })
		}
		got, err := checkMerge(t, "risen", lists)
		if size > 0 && len(lists) <= 256 {
			checkRuns(t, "runs", encodeAll(t, lists), size)
			slices.Reverse(lists)
			if again, againErr := Merge(lists); !slices.Equal(again, got) || againErr != err {
				t.Fatalf("the last one first: %v, %d; want %v, %d", again, againErr, got, err)
			}
		}
	})
}

// P1, P11.2: any bytes, parted, as runs.
func FuzzRuns(f *testing.F) {
	one, _ := run.Encode([]api.Entry{{Word: "a", Count: 1}, {Word: "b", Count: 2}}, 2)
	two, _ := run.Encode([]api.Entry{{Word: "b", Count: 3}}, 1)
	f.Add(slices.Concat(one, two), len(one), 2)
	f.Add(slices.Concat(two, two), len(two), 0)
	f.Add([]byte{}, 0, 1)
	f.Fuzz(func(t *testing.T, b []byte, cut, size int) {
		at := min(max(cut, 0), len(b))
		checkRuns(t, "parted", [][]byte{b[:at], b[at:]}, size)
		checkRuns(t, "one alone", [][]byte{b[:at]}, size)
		checkRuns(t, "whole", [][]byte{one, b, two}, size)
	})
}
