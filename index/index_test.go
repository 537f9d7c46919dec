package index

import (
	"math"
	"math/big"
	"math/rand"
	"slices"
	"sort"
	"strconv"
	"strings"
	"testing"

	"mantelet/api"
	"mantelet/daw"
)

// state is a state; its edges are told by bytes and where each of these leads.
func state(final bool, bytes string, to ...int) api.State {
	s := api.State{Final: final}
	for i, n := range to {
		s.Edges = append(s.Edges, api.Edge{Byte: bytes[i], To: n})
	}
	return s
}

func same(a, b []api.State) bool {
	return slices.EqualFunc(a, b, func(a, b api.State) bool {
		return a.Final == b.Final && slices.Equal(a.Edges, b.Edges)
	})
}

// copied is an automaton in memory of its own.
func copied(a []api.State) []api.State {
	out := slices.Clone(a)
	for i := range out {
		out[i].Edges = slices.Clone(out[i].Edges)
	}
	return out
}

func short[T any](l []T) []T {
	return l[:min(len(l), 12)]
}

// build is the automaton of words that rise.
func build(t *testing.T, words []string) []api.State {
	t.Helper()
	a, err := daw.Build(words)
	if err != api.OK {
		t.Fatalf("daw.Build(%q): %d", short(words), err)
	}
	return a
}

// behind are what is left of words that begin with a byte, behind it.
func behind(words []string, c byte) []string {
	var rests []string
	for _, w := range words {
		if w != "" && w[0] == c {
			rests = append(rests, w[1:])
		}
	}
	return rests
}

// expectCounts are of words alone how many are taken from each of their states on: each list of what is left of words is a state, whose number is that of its leaving.
func expectCounts(words []string) []uint64 {
	var counts []uint64
	var left [][]string
	var leave func(rests []string)
	leave = func(rests []string) {
		is := func(l []string) bool { return slices.Equal(l, rests) }
		if slices.ContainsFunc(left, is) {
			return
		}
		for c := range 256 {
			if further := behind(rests, byte(c)); further != nil {
				leave(further)
			}
		}
		left, counts = append(left, rests), append(counts, uint64(len(rests)))
	}
	leave(words)
	return counts
}

// expectSums are what P15.1 says of any states that may be, in numbers without a bound.
func expectSums(a []api.State) ([]uint64, api.Errno) {
	most := new(big.Int).Lsh(big.NewInt(1), 62)
	sums := make([]*big.Int, len(a))
	counts := make([]uint64, len(a))
	err := api.OK
	for i, s := range a {
		sums[i] = big.NewInt(0)
		for _, e := range s.Edges {
			sums[i].Add(sums[i], sums[e.To])
		}
		if s.Final {
			sums[i].Add(sums[i], big.NewInt(1))
		}
		if sums[i].Cmp(most) > 0 {
			err = api.ErrOver
		}
		counts[i] = sums[i].Uint64()
	}
	if err != api.OK {
		return nil, err
	}
	return counts, api.OK
}

// checkCounts holds Counts against what is told, and against R1 and R3.
func checkCounts(t *testing.T, name string, a []api.State, want []uint64, wantErr api.Errno) {
	t.Helper()
	was := copied(a)
	got, err := Counts(a)
	if err != wantErr || !slices.Equal(got, want) {
		t.Fatalf("%s: Counts(%v) = %d, %d; want %d, %d", name, short(was), short(got), err, short(want), wantErr)
	}
	if !same(a, was) {
		t.Fatalf("%s: Counts turned %v to %v", name, short(was), short(a))
	}
}

// checkOf holds Of against what is told, and against R3.
func checkOf(t *testing.T, name string, a []api.State, word string, want int, wantIs bool) {
	t.Helper()
	was := copied(a)
	if got, is := Of(a, word); got != want || is != wantIs {
		t.Fatalf("%s: Of(%v, %q) = %d, %t; want %d, %t", name, short(was), word, got, is, want, wantIs)
	}
	if !same(a, was) {
		t.Fatalf("%s: Of turned %v to %v", name, short(was), short(a))
	}
}

// checkWord holds Word against what is told, and against R3.
func checkWord(t *testing.T, name string, a []api.State, n int, want string, wantIs bool) {
	t.Helper()
	was := copied(a)
	if got, is := Word(a, n); got != want || is != wantIs {
		t.Fatalf("%s: Word(%v, %d) = %q, %t; want %q, %t", name, short(was), n, got, is, want, wantIs)
	}
	if !same(a, was) {
		t.Fatalf("%s: Word turned %v to %v", name, short(was), short(a))
	}
}

// near are texts that are all but a word.
func near(w string) []string {
	l := []string{"", "\x00", "\xFF", strings.Repeat("\xFF", len(w)+1), w + "\x00", w + "a", w + "\xFF", w + w}
	for n := range w {
		l = append(l, w[:n], w[n:], w[:n]+w[n+1:], w[:n]+"\x00"+w[n:], w[:n]+"\xFF"+w[n+1:], w[:n]+string([]byte{w[n] + 1})+w[n+1:])
	}
	return l
}

// expectOf is what P15.2 says of a word, by a plain list of words that rise.
func expectOf(words []string, word string) (int, bool) {
	n := sort.SearchStrings(words, word)
	if n == len(words) || words[n] != word {
		return 0, false
	}
	return n, true
}

// checkPlaces holds Of and Word of an automaton against a plain list of the words that it takes: P15.2, P15.3.
func checkPlaces(t *testing.T, name string, a []api.State, words []string) {
	t.Helper()
	for i, w := range words {
		checkOf(t, name, a, w, i, true)
		checkWord(t, name, a, i, w, true)
		for _, other := range near(w) {
			n, is := expectOf(words, other)
			checkOf(t, name, a, other, n, is)
		}
	}
	none := []int{math.MinInt, -1 << 62, -1 << 32, -len(words) - 1, -len(words), -2, -1, len(words), len(words) + 1, len(words) + 1<<32, 1<<62 - 1, 1 << 62, math.MaxInt}
	for _, n := range none {
		if n < 0 || n >= len(words) {
			checkWord(t, name, a, n, "", false)
		}
	}
	for _, other := range []string{"", "\x00", "a", "\xFF", strings.Repeat("\xFF", 40)} {
		n, is := expectOf(words, other)
		checkOf(t, name, a, other, n, is)
	}
}

// check holds all that is promised of words that rise.
func check(t *testing.T, name string, words []string) []api.State {
	t.Helper()
	a := build(t, words)
	checkCounts(t, name, a, expectCounts(words), api.OK)
	checkPlaces(t, name, a, words)
	return a
}

// counted is that the states of words have the counts that are written out here.
func counted(t *testing.T, name string, words []string, want ...uint64) {
	t.Helper()
	a := check(t, name, words)
	if got, err := Counts(a); err != api.OK || !slices.Equal(got, want) {
		t.Errorf("%s: Counts of %q = %d, %d; want %d", name, words, got, err, want)
	}
}

// refused is that an error is told of states, and no words have places there.
func refused(t *testing.T, name string, want api.Errno, a []api.State, words ...string) {
	t.Helper()
	checkCounts(t, name, a, nil, want)
	for _, w := range append(words, "", "a", "b", "ab", "\x00") {
		checkOf(t, name, a, w, 0, false)
	}
	for _, n := range []int{math.MinInt, -1, 0, 1, 2, 1<<62 - 1, 1 << 62, math.MaxInt} {
		checkWord(t, name, a, n, "", false)
	}
}

// P15.1, P15.2: the chapter's example.
func TestExample(t *testing.T) {
	counted(t, "the example", []string{"ab", "cb"}, 1, 1, 2)
	a := build(t, []string{"ab", "cb"})
	checkOf(t, "the example", a, "ab", 0, true)
	checkOf(t, "the example", a, "cb", 1, true)
	checkWord(t, "the example", a, 0, "ab", true)
	checkWord(t, "the example", a, 1, "cb", true)
}

// P15.1, P15.2: the automaton of no words, and of one.
func TestNoneAndOne(t *testing.T) {
	counted(t, "none", nil, 0)
	for _, edges := range [][]api.Edge{nil, {}} {
		none := []api.State{{Edges: edges}}
		checkCounts(t, "none", none, []uint64{0}, api.OK)
		checkPlaces(t, "none", none, nil)
		checkWord(t, "none", none, 0, "", false)
	}
	counted(t, "one byte", []string{"a"}, 1, 1)
	counted(t, "one word", []string{"aab"}, 1, 1, 1, 1)
	counted(t, "one word of a 0", []string{"\x00"}, 1, 1)
	long := strings.Repeat("ab", 100)
	a := check(t, "one long word", []string{long})
	checkOf(t, "one long word", a, long, 0, true)
	checkWord(t, "one long word", a, 0, long, true)
	checkWord(t, "one long word", a, 1, "", false)
}

// P15.1, P15.2: states that are Final and lead on, and words that are the begin of others.
func TestBegins(t *testing.T) {
	counted(t, "two", []string{"a", "ab"}, 1, 2, 2)
	counted(t, "three", []string{"a", "aa", "aaa"}, 1, 2, 3, 3)
	counted(t, "not all", []string{"a", "aaa"}, 1, 1, 2, 2)
	counted(t, "forks", []string{"a", "ab", "abc", "b"}, 1, 2, 3, 4)
	counted(t, "two forks", []string{"a", "ab", "c", "cb"}, 1, 2, 4)
	counted(t, "ends or not", []string{"a", "ab", "cb"}, 1, 2, 1, 3)
	counted(t, "cats", []string{"bat", "bats", "cat", "cats", "rat"}, 1, 2, 2, 2, 1, 1, 5)
	counted(t, "ends", []string{"ac", "ad", "bc", "bd"}, 1, 2, 4)
	a := build(t, []string{"a", "ab", "abc", "b", "bc", "c"})
	for n, w := range []string{"a", "ab", "abc", "b", "bc", "c"} {
		checkOf(t, "begins", a, w, n, true)
		checkWord(t, "begins", a, n, w, true)
	}
}

// P15.2: words that aren't taken: below all, above all, between, too long, too short, and the empty one.
func TestNotTaken(t *testing.T) {
	words := []string{"bb", "bbcc", "dd", "ddd"}
	a := check(t, "words", words)
	not := []string{"", "b", "d", "bbc", "dddd", "bbccc", "a", "aa", "ba", "bbb", "bbca", "bbcd", "bc", "c", "cc", "da", "db", "dda", "de", "e", "ee", "\x00", "\xFF", "bb\x00", "\x00bb", "BB", " bb", "bb "}
	for _, w := range not {
		checkOf(t, "not taken", a, w, 0, false)
	}
	for _, n := range []int{math.MinInt, -5, -4, -1, 4, 5, 1 << 32, 1<<32 + 1, math.MaxInt} {
		checkWord(t, "no such place", a, n, "", false)
	}
	checkWord(t, "the first one", a, 0, "bb", true)
	checkWord(t, "the last one", a, 3, "ddd", true)
}

// P15.2, P15.3: bytes 0, 127, 128 and 255 rise as they are numbered.
func TestBytes(t *testing.T) {
	counted(t, "bytes", []string{"\x00", "\x7F", "\x80", "\xFF"}, 1, 4)
	counted(t, "0s", []string{"\x00", "\x00\x00", "\x00\x00\x00"}, 1, 2, 3, 3)
	counted(t, "0 behind", []string{"a", "a\x00"}, 1, 2, 2)
	counted(t, "runes", []string{"z", "ä"}, 1, 1, 2)
	check(t, "of two", texts([]byte{0, 127, 128, 255}, 2)[1:])
	all := make([]string, 256)
	for c := range all {
		all[c] = string([]byte{byte(c)})
	}
	counted(t, "all bytes", all, 1, 256)
	var pairs []string
	for c := range 256 {
		pairs = append(pairs, string([]byte{byte(c)}), string([]byte{byte(c), byte(255 - c)}))
	}
	check(t, "pairs", pairs)
}

// P15.1, P15.2: states that aren't the automaton of any words.
func TestMayNot(t *testing.T) {
	not := func(name string, a ...api.State) {
		t.Helper()
		refused(t, name, api.ErrArg, a)
	}
	end := state(true, "")
	not("none at all")
	refused(t, "none at all", api.ErrArg, []api.State{})
	not("a first state that is Final, alone", end)
	not("an edge to itself", state(false, "a", 0))
	not("an edge to itself, Final", state(true, "a", 0))
	not("an edge to itself and one on", end, state(false, "ab", 0, 1))
	not("an edge to a higher state", end, state(false, "a", 2), state(false, "a", 1))
	not("an edge to a higher state, but none round", end, state(true, "a", 2), state(true, "b", 0), state(false, "ab", 1, 2))
	not("round", end, state(true, "a", 2), state(false, "b", 1))
	not("an edge to no state", end, state(false, "a", 2))
	not("an edge to no state, far off", end, state(false, "ab", 0, math.MaxInt))
	not("an edge below 0", end, state(false, "a", -1))
	not("an edge below 0, far off", end, state(false, "ab", 0, math.MinInt))
	not("an edge below 0, alone", state(false, "a", -1))
	not("edges that fall", end, state(false, "ba", 0, 0))
	not("edges that fall, the last ones", end, state(false, "acb", 0, 0, 0))
	not("edges that fall as bytes", end, state(false, "\x80\x7F", 0, 0))
	not("two edges of one byte", end, state(false, "aa", 0, 0))
	not("two edges of one byte to unlike states", end, state(true, "a", 0), state(false, "aa", 0, 1))
	not("two states alike at the end", end, end, state(false, "ab", 0, 1))
	not("two states alike farther on", end, state(false, "b", 0), state(false, "b", 0), state(false, "ac", 1, 2))
	not("a state that no edge leads to", end, state(true, "a", 0), state(false, "a", 0))
	not("a state that no edge leads to, last but one", end, state(false, "a", 0), state(false, "b", 0), state(false, "c", 1))
	not("one that leads to nothing, not Final", state(false, ""), state(false, "a", 0))
	not("one that leads to nothing beside one that does", end, state(false, ""), state(false, "ab", 0, 1))
	not("the end is led to by nothing", end, state(false, ""))
	not("in another turn", end, state(false, "c", 0), state(false, "b", 0), state(false, "ab", 2, 1))
	not("a first state that is Final", end, state(true, "a", 0))
	not("a first state that is Final, farther on", end, state(false, "b", 0), state(true, "ab", 1, 0))
	not("the first state ahead", state(false, "a", 1), end)
	// Just beside them, one that may be.
	a := []api.State{end, state(false, "c", 0), state(false, "b", 0), state(false, "ab", 1, 2)}
	checkCounts(t, "in turn", a, []uint64{1, 1, 1, 2}, api.OK)
	checkPlaces(t, "in turn", a, []string{"ac", "bb"})
}

// P15.1: of states that may not be and would take too many words, ErrArg is told.
func TestMayNotAndOver(t *testing.T) {
	a := ladder(64, "ab")
	a[64].Edges[1].Byte = 'a'
	refused(t, "too many, and two edges of one byte", api.ErrArg, a)
	a = ladder(64, "ab")
	a[64].Final = true
	refused(t, "too many, and a first state that is Final", api.ErrArg, a)
	a = append(ladder(64, "ab"), state(false, "a", 63))
	refused(t, "too many, and a state that no edge leads to", api.ErrArg, a)
}

// ladder is an automaton of as many steps, in each of which it takes one of some bytes.
func ladder(steps int, bytes string) []api.State {
	a := []api.State{state(true, "")}
	for i := range steps {
		s := state(false, "")
		for k := range len(bytes) {
			s.Edges = append(s.Edges, api.Edge{Byte: bytes[k], To: i})
		}
		a = append(a, s)
	}
	return a
}

// binary is a number to the base 2 in so many figures, each of them one of two bytes.
func binary(n uint64, figures int, bytes string) string {
	w := make([]byte, figures)
	for i := range w {
		w[i] = bytes[n>>(figures-1-i)&1]
	}
	return string(w)
}

// checkLadder holds the places of a ladder of two bytes: a word is its place to the base 2.
func checkLadder(t *testing.T, steps int, bytes string) {
	t.Helper()
	name := strconv.Itoa(steps) + " steps"
	a := ladder(steps, bytes)
	want := make([]uint64, steps+1)
	for i := range want {
		want[i] = 1 << i
	}
	checkCounts(t, name, a, want, api.OK)
	count := uint64(1) << steps
	r := rand.New(rand.NewSource(int64(steps)))
	places := []uint64{0, 1, 2, 3, count/2 - 1, count / 2, count/2 + 1, count/3 + 1, count - 2, count - 1}
	for range 50 {
		places = append(places, r.Uint64()%count)
	}
	for _, n := range places {
		w := binary(n, steps, bytes)
		checkOf(t, name, a, w, int(n), true)
		checkWord(t, name, a, int(n), w, true)
		checkOf(t, name, a, w[1:], 0, false)
		checkOf(t, name, a, w+bytes[:1], 0, false)
	}
	for _, n := range []int{math.MinInt, -int(count), -1, int(count), int(count) + 1, math.MaxInt} {
		checkWord(t, name, a, n, "", false)
	}
}

// P15.1, P15.2: states each of which leads twice to the one below it: up to just 2^62 words, and above.
func TestLadder(t *testing.T) {
	for _, bytes := range []string{"ab", "\x00\xFF", "\x7F\x80"} {
		for _, steps := range []int{2, 16, 31, 32, 33, 53, 54, 60, 61, 62} {
			checkLadder(t, steps, bytes)
		}
		for _, steps := range []int{63, 64, 65, 66, 127, 128, 1000} {
			a := ladder(steps, bytes)
			refused(t, strconv.Itoa(steps)+" steps", api.ErrOver, a, binary(0, steps, bytes), binary(1, steps, bytes))
		}
	}
	a := ladder(62, "ab")
	if counts, err := Counts(a); err != api.OK || counts[62] != 1<<62 || counts[61] != 1<<61 {
		t.Errorf("62 steps: %d", err)
	}
	if n, is := Of(a, strings.Repeat("b", 62)); n != 1<<62-1 || !is {
		t.Errorf("the highest place: %d, %t", n, is)
	}
}

// P15.1: just 2^62 words from a state on, and one more, by an end or by an edge; and so many that sums wrap round.
func TestOver(t *testing.T) {
	sums := func(name string, a []api.State, want api.Errno) []uint64 {
		t.Helper()
		if !daw.May(a) {
			t.Fatalf("%s: it may not be", name)
		}
		counts, err := expectSums(a)
		checkCounts(t, name, a, counts, err)
		if err != want {
			t.Fatalf("%s: %d; want %d", name, err, want)
		}
		if err != api.OK {
			refused(t, name, err, a, strings.Repeat("a", len(a)-1), strings.Repeat("a", len(a)-2)+"b")
		}
		return counts
	}
	// The state that takes 2^62 isn't the first one.
	sums("2^62 below the first state", append(ladder(62, "ab"), state(false, "x", 62)), api.OK)
	a := append(ladder(62, "ab"), state(false, "x", 62))
	a[62].Final = true
	sums("and one that ends there", a, api.ErrOver)
	sums("and one more edge of the first state", append(ladder(62, "ab"), state(false, "xy", 62, 0)), api.ErrOver)
	sums("and one more edge of the first state, ahead", append(ladder(62, "ab"), state(false, "xy", 0, 62)), api.ErrOver)
	a = ladder(62, "ab")
	a[62].Edges = append(a[62].Edges, api.Edge{Byte: 'c', To: 0})
	sums("three edges, one more", a, api.ErrOver)
	// Words end at each state but the first one: 2^62 - 1 from the state numbered 61 on.
	ends := func(first api.State) []api.State {
		a := ladder(61, "ab")
		for i := range a {
			a[i].Final = true
		}
		return append(a, first)
	}
	if c := sums("ends", ends(state(false, "a", 61)), api.OK); c[62] != 1<<62-1 {
		t.Errorf("ends: %d", c[62])
	}
	if c := sums("ends, and one", ends(state(false, "ab", 61, 0)), api.OK); c[62] != 1<<62 {
		t.Errorf("ends, and one: %d", c[62])
	}
	sums("ends, and two", ends(state(false, "abc", 61, 0, 0)), api.ErrOver)
	sums("ends, and three", ends(state(false, "ab", 61, 1)), api.ErrOver)
	sums("ends, twice", ends(state(false, "ab", 61, 61)), api.ErrOver)
	// 2^64 is 0 in 64 bits.
	sums("four times 2^62", append(ladder(62, "ab"), state(false, "wxyz", 62, 62, 62, 62)), api.ErrOver)
	sums("eight times 2^61", append(ladder(61, "ab"), state(false, "stuvwxyz", 61, 61, 61, 61, 61, 61, 61, 61)), api.ErrOver)
	all := ""
	for c := range 256 {
		all += string([]byte{byte(c)})
	}
	sums("2^56", ladder(7, all), api.OK)
	sums("2^64", ladder(8, all), api.ErrOver)
	sums("2^64, and more above it", ladder(9, all), api.ErrOver)
	sums("2^60, by fours", ladder(30, "abcd"), api.OK)
	sums("2^62, by fours", ladder(31, "abcd"), api.OK)
	sums("2^64, by fours", ladder(32, "abcd"), api.ErrOver)
	sums("3^39", ladder(39, "abc"), api.OK)
	sums("3^40", ladder(40, "abc"), api.ErrOver)
}

// P15.2, P15.3: places among more words than a list has room for, there and back, and the words in their order.
func TestFar(t *testing.T) {
	a := ladder(61, "ab")
	for i := range a {
		a[i].Final = true
	}
	a = append(a, state(false, "\x00z", 61, 0))
	all := 1 << 62
	checkWord(t, "the last one", a, all-1, "z", true)
	checkWord(t, "the last but one", a, all-2, "\x00"+strings.Repeat("b", 61), true)
	checkWord(t, "the first one", a, 0, "\x00", true)
	checkWord(t, "the second one", a, 1, "\x00a", true)
	checkWord(t, "above the last one", a, all, "", false)
	r := rand.New(rand.NewSource(1521))
	for range 500 {
		n := r.Intn(all - 1)
		w, is := Word(a, n)
		next, isNext := Word(a, n+1)
		if !is || !isNext || w >= next {
			t.Fatalf("%d is %q, %t; the next one %q, %t", n, w, is, next, isNext)
		}
		checkOf(t, "far", a, w, n, true)
		checkOf(t, "far", a, next, n+1, true)
	}
}

// texts are all texts of some bytes that aren't longer than most, rising.
func texts(of []byte, most int) []string {
	all := []string{""}
	if most > 0 {
		for _, c := range of {
			for _, text := range texts(of, most-1) {
				all = append(all, string([]byte{c})+text)
			}
		}
	}
	return all
}

// sets calls f with all lists of some of the words, of which each keeps its turn.
func sets(words []string, f func([]string)) {
	for set := range 1 << len(words) {
		var l []string
		for i, w := range words {
			if set>>i&1 == 1 {
				l = append(l, w)
			}
		}
		f(l)
	}
}

// P15.1, P15.2, P15.3: all words of small alphabets, each list of them, against that list: each place there and back, and no other ones.
func TestSmallAlphabets(t *testing.T) {
	small := []struct {
		of      string
		longest int
	}{{"a", 6}, {"ab", 2}, {"\x00\xFF", 2}, {"abc", 1}, {"ab", 3}, {"\x7F\x80\xFF", 2}}
	for _, s := range small {
		of := []byte(s.of)
		asked := texts(of, s.longest+1)
		sets(texts(of, s.longest)[1:], func(l []string) {
			a := build(t, l)
			counts, err := Counts(a)
			if err != api.OK || counts[len(a)-1] != uint64(len(l)) {
				t.Fatalf("Counts of %q = %d, %d", l, counts, err)
			}
			if len(l) < 5 {
				checkCounts(t, s.of, a, expectCounts(l), api.OK)
			}
			next := 0
			for _, w := range asked {
				n, is := Of(a, w)
				switch {
				case next < len(l) && l[next] == w:
					back, has := Word(a, next)
					if n != next || !is || back != w || !has {
						t.Fatalf("of %q: Of(%q) = %d, %t; Word(%d) = %q, %t", l, w, n, is, next, back, has)
					}
					next++
				case n != 0 || is:
					t.Fatalf("of %q: Of(%q) = %d, %t", l, w, n, is)
				}
			}
			checkWord(t, s.of, a, -1, "", false)
			checkWord(t, s.of, a, len(l), "", false)
		})
	}
}

// shapes are all states of two edges at the most, which rise, by bytes a and b, to these states.
func shapes(to int) []api.State {
	var all []api.State
	for _, final := range []bool{false, true} {
		all = append(all, state(final, ""))
		for n := -1; n <= to; n++ {
			all = append(all, state(final, "a", n), state(final, "b", n))
			for k := -1; k <= to; k++ {
				all = append(all, state(final, "ab", n, k))
			}
		}
	}
	return all
}

// P15.1, P15.2: all states, up to three of them, of which few may be.
func TestAllStates(t *testing.T) {
	try := func(a []api.State) int {
		if !daw.May(a) {
			if c, err := Counts(a); len(c) > 0 || err != api.ErrArg {
				t.Fatalf("Counts(%v) = %d, %d", a, c, err)
			}
			n, is := Of(a, "a")
			w, has := Word(a, 0)
			if n != 0 || is || w != "" || has {
				t.Fatalf("of %v: %d, %t, %q, %t", a, n, is, w, has)
			}
			return 0
		}
		words, err := daw.Words(a, 100)
		if err != api.OK {
			t.Fatalf("daw.Words(%v): %d", a, err)
		}
		checkCounts(t, "few states", a, expectCounts(words), api.OK)
		checkPlaces(t, "few states", a, words)
		return 1
	}
	may := 0
	for _, s := range shapes(1) {
		may += try([]api.State{s})
	}
	for _, s := range shapes(2) {
		for _, first := range shapes(2) {
			may += try([]api.State{s, first})
		}
	}
	three := shapes(2)
	for _, s := range three {
		for _, second := range three {
			for _, first := range three {
				may += try([]api.State{s, second, first})
			}
		}
	}
	// One of one, three of two, thirty of three.
	if may != 34 {
		t.Errorf("%d may be", may)
	}
}

// R3: what is handed in stays as it is, also behind it in its memory, and what is told is the caller's own.
func TestSharesNothing(t *testing.T) {
	edges := []api.Edge{{Byte: 'a', To: 0}, {Byte: 'b', To: 0}, {Byte: 'c', To: 7}}
	room := []api.State{state(true, ""), {Edges: edges[:2]}, state(true, "x", 9)}
	a := room[:2]
	counts, err := Counts(a)
	if err != api.OK || !slices.Equal(counts, []uint64{1, 2}) {
		t.Fatalf("%d, %d", counts, err)
	}
	w, _ := Word(a, 1)
	clear(counts)
	_ = append(counts, 77, 78)
	checkCounts(t, "again", a, []uint64{1, 2}, api.OK)
	checkPlaces(t, "within more memory", a, []string{"a", "b"})
	if !same(room[2:], []api.State{state(true, "x", 9)}) || edges[2] != (api.Edge{Byte: 'c', To: 7}) {
		t.Errorf("turned to %v, %v", room, edges)
	}
	told, _ := Counts(a)
	clear(edges)
	clear(room)
	if w != "b" || !slices.Equal(told, []uint64{1, 2}) {
		t.Errorf("what was handed in, turned: %q, %d", w, told)
	}
}

// R4: nothing is kept from call to call.
func TestKeepsNothing(t *testing.T) {
	words := []string{"a", "ab", "cb"}
	a := build(t, words)
	for n := range 20 {
		checkLadder(t, 2+n, "ab")
		refused(t, "others", api.ErrOver, ladder(63+n, "ab"))
		refused(t, "others", api.ErrArg, []api.State{state(true, "")})
		checkCounts(t, "again", a, []uint64{1, 2, 1, 3}, api.OK)
		checkPlaces(t, "again", a, words)
	}
}

// anyWords are words by chance, rising, none of them empty.
func anyWords(r *rand.Rand) []string {
	of := []string{"a", "ab", "abc", "\x00\x7F\x80\xFF", "abcdefghijklmnopqrstuvwxyz"}[r.Intn(5)]
	words := make([]string, r.Intn(40))
	for i := range words {
		w := make([]byte, 1+r.Intn(7))
		for k := range w {
			w[k] = of[r.Intn(len(of))]
		}
		words[i] = string(w)
	}
	slices.Sort(words)
	return slices.Compact(words)
}

// P15.1, P15.2, P15.3: words by chance; and their states, turned at one place.
func TestAny(t *testing.T) {
	r := rand.New(rand.NewSource(1511))
	for range 200 {
		words := anyWords(r)
		a := check(t, "any", words)
		i := r.Intn(len(a))
		a[i].Final = !a[i].Final
		if !daw.May(a) {
			refused(t, "turned", api.ErrArg, a, words...)
			continue
		}
		turned, err := daw.Words(a, 100000)
		if err != api.OK {
			t.Fatal(err)
		}
		checkCounts(t, "turned", a, expectCounts(turned), api.OK)
		checkPlaces(t, "turned", a, turned)
	}
}

// P15.1: steps by chance, some of them ends, which take few words or too many.
func TestAnySteps(t *testing.T) {
	r := rand.New(rand.NewSource(1512))
	of := map[api.Errno]int{}
	for range 400 {
		a := []api.State{state(true, "")}
		for i := range 30 + r.Intn(70) {
			s := state(r.Intn(2) == 0, "a", i)
			for c := byte('b'); r.Intn(4) > 0; c++ {
				s.Edges = append(s.Edges, api.Edge{Byte: c, To: max(0, i-r.Intn(5))})
			}
			a = append(a, s)
		}
		a[len(a)-1].Final = false
		if !daw.May(a) {
			t.Fatalf("%v may not be", a)
		}
		counts, err := expectSums(a)
		checkCounts(t, "steps", a, counts, err)
		of[err]++
		if err != api.OK {
			refused(t, "steps", err, a, strings.Repeat("a", len(a)-1))
			continue
		}
		n := r.Intn(int(counts[len(a)-1]))
		w, is := Word(a, n)
		if !is || !daw.Has(a, w) {
			t.Fatalf("Word(%v, %d) = %q, %t", a, n, w, is)
		}
		checkOf(t, "steps", a, w, n, true)
	}
	if of[api.OK] < 50 || of[api.ErrOver] < 50 {
		t.Errorf("%v", of)
	}
}

// P1, P15.2: a word of many bytes, and states as many as they.
func TestDeep(t *testing.T) {
	n := 1 << 16
	word := strings.Repeat("ab", n/2)
	a := build(t, []string{word, word + "a"})
	if p, is := Of(a, word+"a"); p != 1 || !is {
		t.Errorf("Of = %d, %t", p, is)
	}
	if w, is := Word(a, 0); w != word || !is {
		t.Errorf("Word = %d bytes, %t", len(w), is)
	}
	checkOf(t, "deep", a, word[1:], 0, false)
	checkWord(t, "deep", a, 2, "", false)
	ends := []api.State{state(true, "")}
	for i := range n - 1 {
		ends = append(ends, state(true, "a", i))
	}
	ends = append(ends, state(false, "a", n-1))
	counts, err := Counts(ends)
	if err != api.OK || counts[n] != uint64(n) || counts[7] != 8 {
		t.Errorf("%d", err)
	}
	if p, is := Of(ends, strings.Repeat("a", n)); p != n-1 || !is {
		t.Errorf("Of = %d, %t", p, is)
	}
	if w, is := Word(ends, n-2); len(w) != n-1 || !is {
		t.Errorf("Word = %d bytes, %t", len(w), is)
	}
}

// P1, P15.3: many words.
func TestMany(t *testing.T) {
	words := make([]string, 90000)
	for i := range words {
		words[i] = strconv.Itoa(1000000 + i)
	}
	a := build(t, words)
	checkCounts(t, "many", a, []uint64{1, 10, 100, 1000, 10000, 90000, 90000, 90000}, api.OK)
	for i := 0; i < len(words); i += 7 {
		checkOf(t, "many", a, words[i], i, true)
		checkWord(t, "many", a, i, words[i], true)
	}
	checkWord(t, "many", a, 90000, "", false)
	checkOf(t, "many", a, "1090000", 0, false)
}

// P1, P15.1, P15.2, P15.3: any words, of any bytes.
func FuzzWords(f *testing.F) {
	f.Add("ab cb", " ", "cb", 1)
	f.Add("bat bats cat cats rat", " ", "bats", 3)
	f.Add("\x00\x7F\x80\xFF", "", "\x80", -1)
	f.Fuzz(func(t *testing.T, text, mark, word string, n int) {
		words := strings.Split(text[:min(len(text), 60)], mark)
		slices.Sort(words)
		words = slices.Compact(words)
		words = slices.DeleteFunc(words, func(w string) bool { return w == "" })
		a := check(t, "any", words)
		place, is := expectOf(words, word)
		checkOf(t, "any", a, word, place, is)
		want, has := "", 0 <= n && n < len(words)
		if has {
			want = words[n]
		}
		checkWord(t, "any", a, n, want, has)
	})
}

// P1, P15.1, P15.2: any states, each edge told by a byte, of which some end a state.
func FuzzStates(f *testing.F) {
	f.Add([]byte{0x80, 0x08, 0x09, 0xC0}, "b", 1)
	f.Add([]byte{0x80, 0x08, 0x09, 0xC0, 0x0C, 0x0D, 0xC0}, "ab", 3)
	f.Fuzz(func(t *testing.T, b []byte, word string, n int) {
		var a []api.State
		var s api.State
		for _, c := range b[:min(len(b), 60)] {
			if c >= 0x80 {
				s.Final = c < 0xC0
				a, s = append(a, s), api.State{}
				continue
			}
			s.Edges = append(s.Edges, api.Edge{Byte: 'a' + c%4, To: int(c>>2) - 2})
		}
		if !daw.May(a) {
			refused(t, "any", api.ErrArg, a, word)
			return
		}
		counts, err := expectSums(a)
		checkCounts(t, "any", a, counts, err)
		if words, err := daw.Words(a, 1000); err == api.OK {
			checkPlaces(t, "any", a, words)
		}
		w, is := Word(a, n)
		if has := err == api.OK && 0 <= n && uint64(n) < counts[len(a)-1]; is != has {
			t.Fatalf("Word(%v, %d) = %q, %t", a, n, w, is)
		}
		if is {
			checkOf(t, "any", a, w, n, true)
		}
	})
}
