package daw

import (
	"bytes"
	"math"
	"math/rand"
	"slices"
	"strconv"
	"strings"
	"testing"

	"mantelet/api"
)

// state is a state; its edges are told by bytes and where each of these leads.
func state(final bool, bytes string, to ...int) api.State {
	s := api.State{Final: final}
	for i, n := range to {
		s.Edges = append(s.Edges, api.Edge{Byte: bytes[i], To: n})
	}
	return s
}

func sameState(a, b api.State) bool {
	return a.Final == b.Final && slices.Equal(a.Edges, b.Edges)
}

func same(a, b []api.State) bool {
	return slices.EqualFunc(a, b, sameState)
}

// copied is an automaton in memory of its own.
func copied(a []api.State) []api.State {
	out := slices.Clone(a)
	for i := range out {
		out[i].Edges = slices.Clone(out[i].Edges)
	}
	return out
}

func short[T any](l []T) []T {
	return l[:min(len(l), 12)]
}

// behind are what is left of words that begin with a byte, behind it.
func behind(words []string, c byte) []string {
	var rests []string
	for _, w := range words {
		if w != "" && w[0] == c {
			rests = append(rests, w[1:])
		}
	}
	return rests
}

// expectStates is the automaton of words that rise, as the chapter has it: a state is what is left of words, searched for in those that were left.
func expectStates(words []string) []api.State {
	var states []api.State
	var left [][]string
	var leave func(rests []string) int
	leave = func(rests []string) int {
		is := func(l []string) bool { return slices.Equal(l, rests) }
		if n := slices.IndexFunc(left, is); n >= 0 {
			return n
		}
		s := api.State{Final: slices.Contains(rests, "")}
		for c := range 256 {
			if further := behind(rests, byte(c)); further != nil {
				s.Edges = append(s.Edges, api.Edge{Byte: byte(c), To: leave(further)})
			}
		}
		left, states = append(left, rests), append(states, s)
		return len(states) - 1
	}
	leave(words)
	return states
}

// expectBuild is what P14.1 says of building.
func expectBuild(words []string) ([]api.State, api.Errno) {
	if slices.Contains(words, "") {
		return nil, api.ErrArg
	}
	for i := range words {
		if i > 0 && bytes.Compare([]byte(words[i-1]), []byte(words[i])) >= 0 {
			return nil, api.ErrOrder
		}
	}
	return expectStates(words), api.OK
}

// expectHas is what P14.2 says of having, from a state on; -1: the state that is there first.
func expectHas(a []api.State, from int, word string) bool {
	if from == -1 {
		return len(a) > 0 && expectHas(a, len(a)-1, word)
	}
	if word == "" {
		return a[from].Final
	}
	first := slices.IndexFunc(a[from].Edges, func(e api.Edge) bool { return e.Byte == word[0] })
	if first < 0 {
		return false
	}
	to := a[from].Edges[first].To
	return 0 <= to && to < len(a) && expectHas(a, to, word[1:])
}

// letters are the bytes of an automaton's edges, each of them once, rising.
func letters(a []api.State) []byte {
	var l []byte
	for _, s := range a {
		for _, e := range s.Edges {
			l = append(l, e.Byte)
		}
	}
	slices.Sort(l)
	return slices.Compact(l)
}

// texts are all texts of some bytes that aren't longer than most, rising.
func texts(of []byte, most int) []string {
	all := []string{""}
	if most > 0 {
		for _, c := range of {
			for _, text := range texts(of, most-1) {
				all = append(all, string([]byte{c})+text)
			}
		}
	}
	return all
}

// taken are all words that states take which are shorter than there are states, rising.
func taken(a []api.State) []string {
	var words []string
	for _, w := range texts(letters(a), len(a)-1) {
		if expectHas(a, -1, w) {
			words = append(words, w)
		}
	}
	return words
}

// expectMay is what P14.1 says of states that may be: they are the automaton of the words that they take, none of which is as long as there are states, or they go round.
func expectMay(a []api.State) bool {
	if len(a) == 0 {
		return false
	}
	want, err := expectBuild(taken(a))
	return err == api.OK && same(a, want)
}

// checkBuild holds Build against P14.1, and against R1 and R3.
func checkBuild(t *testing.T, name string, words []string) []api.State {
	t.Helper()
	was := slices.Clone(words)
	got, err := Build(words)
	want, wantErr := expectBuild(was)
	if err != wantErr || !same(got, want) {
		t.Fatalf("%s: Build(%q) = %v, %d; want %v, %d", name, short(was), short(got), err, short(want), wantErr)
	}
	if !slices.Equal(words, was) {
		t.Fatalf("%s: Build turned %q to %q", name, short(was), short(words))
	}
	return got
}

// checkMay holds May against what is told, and against R3.
func checkMay(t *testing.T, name string, a []api.State, want bool) {
	t.Helper()
	was := copied(a)
	if got := May(a); got != want {
		t.Fatalf("%s: May(%v) = %t", name, short(was), got)
	}
	if !same(a, was) {
		t.Fatalf("%s: May turned %v to %v", name, short(was), short(a))
	}
}

// checkHas holds Has against P14.2, and against R3.
func checkHas(t *testing.T, name string, a []api.State, word string) bool {
	t.Helper()
	was := copied(a)
	got, want := Has(a, word), expectHas(was, -1, word)
	if got != want {
		t.Fatalf("%s: Has(%v, %q) = %t; want %t", name, short(was), word, got, want)
	}
	if !same(a, was) {
		t.Fatalf("%s: Has turned %v to %v", name, short(was), short(a))
	}
	return got
}

// checkWords holds Words against P14.2, and against R1 and R3; of states that may be it is told which words they take.
func checkWords(t *testing.T, name string, a []api.State, most int, may bool, words []string) {
	t.Helper()
	was := copied(a)
	want, wantErr := words, api.OK
	switch {
	case most < 0 || most > 100000 || !may:
		want, wantErr = nil, api.ErrArg
	case len(words) > most:
		want, wantErr = nil, api.ErrFull
	}
	got, err := Words(a, most)
	if err != wantErr || !slices.Equal(got, want) {
		t.Fatalf("%s: Words(%v, %d) = %q, %d; want %q, %d", name, short(was), most, short(got), err, short(want), wantErr)
	}
	if !same(a, was) {
		t.Fatalf("%s: Words turned %v to %v", name, short(was), short(a))
	}
}

// edges are numbers of words that are near to a number, and to what Words bears.
func edges(n int) []int {
	return []int{math.MinInt, -100000, -2, -1, 0, 1, n - 1, n, n + 1, 99999, 100000, 100001, math.MaxInt}
}

// checkUnlike holds each two states against one another, by the words that are taken from them on: P14.3's second half.
func checkUnlike(t *testing.T, name string, a []api.State) {
	t.Helper()
	from := make([][]string, len(a))
	for i := range a {
		// What leads above a state isn't led to from it.
		from[i] = taken(a[:i+1])
		for k := range i {
			if slices.Equal(from[i], from[k]) || sameState(a[i], a[k]) {
				t.Fatalf("%s: of %v, %d and %d are alike", name, short(a), k, i)
			}
		}
	}
}

// check holds all that is promised of words that rise.
func check(t *testing.T, name string, words []string) []api.State {
	t.Helper()
	a := checkBuild(t, name, words)
	checkMay(t, name, a, true)
	for _, most := range edges(len(words)) {
		checkWords(t, name, a, most, true, words)
	}
	for _, w := range words {
		if !checkHas(t, name, a, w) {
			t.Fatalf("%s: the automaton of %q doesn't take %q", name, short(words), w)
		}
		for n := range w {
			near := []string{w[:n], w[n:], w[:n] + w[n+1:], w[:n] + "\x00" + w[n:], w + w[n:], w[:n] + "\xFF" + w[n+1:]}
			for _, other := range near {
				if checkHas(t, name, a, other) != slices.Contains(words, other) {
					t.Fatalf("%s: the automaton of %q takes %q: %t", name, short(words), other, Has(a, other))
				}
			}
		}
	}
	return a
}

// built is that words have the automaton that is written out here.
func built(t *testing.T, name string, words []string, want ...api.State) {
	t.Helper()
	if a := check(t, name, words); !same(a, want) {
		t.Errorf("%s: Build(%q) = %v; want %v", name, words, a, want)
	}
}

// refused is that Build tells an error of words.
func refused(t *testing.T, name string, want api.Errno, words ...string) {
	t.Helper()
	checkBuild(t, name, words)
	if a, err := Build(words); len(a) > 0 || err != want {
		t.Errorf("%s: Build(%q) = %v, %d; want %d", name, words, a, err, want)
	}
}

// P14.1, P14.2: the chapter's example.
func TestExample(t *testing.T) {
	built(t, "the example", []string{"ab", "cb"}, state(true, ""), state(false, "b", 0), state(false, "ac", 1, 1))
}

// P14.1: no words, and one.
func TestNoneAndOne(t *testing.T) {
	for _, none := range [][]string{nil, {}, []string{"a", "b"}[:0]} {
		built(t, "none", none, state(false, ""))
	}
	built(t, "one byte", []string{"a"}, state(true, ""), state(false, "a", 0))
	built(t, "one word", []string{"aab"}, state(true, ""), state(false, "b", 0), state(false, "a", 1), state(false, "a", 2))
}

// P14.1: a word that is empty, anywhere, also beside words that don't rise.
func TestEmptyWord(t *testing.T) {
	refused(t, "alone", api.ErrArg, "")
	refused(t, "twice", api.ErrArg, "", "")
	refused(t, "first", api.ErrArg, "", "a", "b")
	refused(t, "between", api.ErrArg, "a", "", "b")
	refused(t, "last", api.ErrArg, "a", "b", "")
	refused(t, "behind words that fall", api.ErrArg, "b", "a", "")
	refused(t, "ahead of words that fall", api.ErrArg, "", "b", "a")
	refused(t, "behind a word that is there twice", api.ErrArg, "a", "a", "b", "")
	refused(t, "ahead of words that fall, and another one", api.ErrArg, "c", "", "b", "", "a")
	many := strings.Split(strings.Repeat("a", 3000), "")
	refused(t, "behind many", api.ErrArg, append(many, "")...)
}

// P14.1: a word twice, and one below the one ahead of it.
func TestOrder(t *testing.T) {
	refused(t, "twice", api.ErrOrder, "a", "a")
	refused(t, "twice behind others", api.ErrOrder, "a", "b", "bc", "bc")
	refused(t, "below", api.ErrOrder, "b", "a")
	refused(t, "below at the end", api.ErrOrder, "a", "b", "c", "bz")
	refused(t, "below at the beginning", api.ErrOrder, "b", "a", "c", "d")
	refused(t, "below, but above an earlier one", api.ErrOrder, "a", "c", "b")
	refused(t, "what it begins with", api.ErrOrder, "ab", "a")
	refused(t, "what it begins with, farther on", api.ErrOrder, "a", "abc", "abd", "ab")
	refused(t, "longer, but below", api.ErrOrder, "b", "aa")
	refused(t, "as bytes with a sign", api.ErrOrder, "\x80", "\x7F")
	refused(t, "255 and 0", api.ErrOrder, "\xFF", "\x00")
	refused(t, "a rune and a byte", api.ErrOrder, "ä", "z")
	refused(t, "again, not in a row", api.ErrOrder, "a", "b", "a")
}

// P14.1, P14.3: words of which one begins another one.
func TestBegins(t *testing.T) {
	built(t, "two", []string{"a", "ab"}, state(true, ""), state(true, "b", 0), state(false, "a", 1))
	built(t, "three", []string{"a", "aa", "aaa"}, state(true, ""), state(true, "a", 0), state(true, "a", 1), state(false, "a", 2))
	built(t, "not all", []string{"a", "aaa"}, state(true, ""), state(false, "a", 0), state(true, "a", 1), state(false, "a", 2))
	built(t, "forks", []string{"a", "ab", "abc", "b"}, state(true, ""), state(true, "c", 0), state(true, "b", 1), state(false, "ab", 2, 0))
	built(t, "two forks", []string{"a", "ab", "c", "cb"}, state(true, ""), state(true, "b", 0), state(false, "ac", 1, 1))
	// Two states with the same edges, but only at one a word ends.
	built(t, "ends or not", []string{"a", "ab", "cb"}, state(true, ""), state(true, "b", 0), state(false, "b", 0), state(false, "ac", 1, 2))
}

// P14.1, P14.3: words that end alike behind unlike bytes.
func TestEnds(t *testing.T) {
	words := []string{"bat", "bats", "cat", "cats", "rat"}
	built(t, "cats", words,
		state(true, ""), state(true, "s", 0), state(false, "t", 1), state(false, "a", 2),
		state(false, "t", 0), state(false, "a", 4), state(false, "bcr", 3, 3, 5))
	built(t, "behind words of unlike length", []string{"ad", "bcd", "d"},
		state(true, ""), state(false, "d", 0), state(false, "c", 1), state(false, "abd", 1, 2, 0))
	built(t, "all ends", []string{"ac", "ad", "bc", "bd"}, state(true, ""), state(false, "cd", 0, 0), state(false, "ab", 1, 1))
	built(t, "some ends", []string{"ac", "ad", "bc", "be"},
		state(true, ""), state(false, "cd", 0, 0), state(false, "ce", 0, 0), state(false, "ab", 1, 2))
	// What is left later, and like what was left far ahead.
	built(t, "far ahead", []string{"ax", "by", "cbz", "dx", "eaz"},
		state(true, ""), state(false, "x", 0), state(false, "y", 0), state(false, "z", 0),
		state(false, "b", 3), state(false, "a", 3), state(false, "abcde", 1, 2, 4, 1, 5))
	// A state that a lower byte leads to only behind a higher one elsewhere.
	built(t, "in the turn of leaving", []string{"aab", "ab", "b"}, state(true, ""), state(false, "b", 0), state(false, "ab", 1, 0), state(false, "ab", 2, 0))
}

// P14.1, P14.2: bytes 0, 127, 128 and 255.
func TestBytes(t *testing.T) {
	built(t, "bytes", []string{"\x00", "\x7F", "\x80", "\xFF"}, state(true, ""), state(false, "\x00\x7F\x80\xFF", 0, 0, 0, 0))
	built(t, "0 behind", []string{"a", "a\x00"}, state(true, ""), state(true, "\x00", 0), state(false, "a", 1))
	built(t, "0s", []string{"\x00", "\x00\x00", "\x00\x00\x00"}, state(true, ""), state(true, "\x00", 0), state(true, "\x00", 1), state(false, "\x00", 2))
	built(t, "runes", []string{"z", "ä"}, state(true, ""), state(false, "\xA4", 0), state(false, "z\xC3", 0, 1))
	l := texts([]byte{0, 127, 128, 255}, 2)[1:]
	check(t, "of two", l)
	all := make([]string, 256)
	for c := range all {
		all[c] = string([]byte{byte(c)})
	}
	a := check(t, "all bytes", all)
	if len(a) != 2 || len(a[1].Edges) != 256 {
		t.Errorf("all bytes: %d states", len(a))
	}
	var pairs []string
	for c := range 256 {
		pairs = append(pairs, string([]byte{byte(c)}), string([]byte{byte(c), byte(255 - c)}))
	}
	if a := check(t, "pairs", pairs); len(a) != 258 {
		t.Errorf("pairs: %d states", len(a))
	}
}

// P14.1: states that aren't the automaton of any words.
func TestMayNot(t *testing.T) {
	not := func(name string, a ...api.State) {
		t.Helper()
		checkMay(t, name, a, false)
		if len(a) < 5 && expectMay(a) {
			t.Errorf("%s: %v may be", name, a)
		}
		for _, most := range edges(1) {
			checkWords(t, name, a, most, false, nil)
		}
	}
	end := state(true, "")
	not("none at all")
	not("a first state that is Final, alone", end)
	not("an edge to itself", state(false, "a", 0))
	not("an edge to itself, Final", state(true, "a", 0))
	not("an edge to itself and one on", end, state(false, "ab", 0, 1))
	not("an edge to a higher state", end, state(false, "a", 2), state(false, "a", 1))
	not("an edge to a higher state, but none round", end, state(true, "a", 2), state(true, "b", 0), state(false, "ab", 1, 2))
	not("round", end, state(true, "a", 2), state(false, "b", 1))
	not("an edge to no state", end, state(false, "a", 2))
	not("an edge to no state, far off", end, state(false, "ab", 0, math.MaxInt))
	not("an edge below 0", end, state(false, "a", -1))
	not("an edge below 0, far off", end, state(false, "ab", 0, math.MinInt))
	not("an edge below 0, alone", state(false, "a", -1))
	not("edges that fall", end, state(false, "ba", 0, 0))
	not("edges that fall, the last ones", end, state(false, "acb", 0, 0, 0))
	not("edges that fall as bytes, and rise with a sign", end, state(false, "\x80\x7F", 0, 0))
	not("two edges of one byte", end, state(false, "aa", 0, 0))
	not("two edges of one byte to unlike states", end, state(true, "a", 0), state(false, "aa", 0, 1))
	not("two edges of one byte, not in a row", end, state(false, "aba", 0, 0, 0))
	not("two states alike at the end", end, end, state(false, "ab", 0, 1))
	not("two states alike farther on", end, state(false, "b", 0), state(false, "b", 0), state(false, "ac", 1, 2))
	not("the first state like another one", end, state(false, "a", 0), state(false, "a", 0))
	not("a state that no edge leads to", end, state(true, "a", 0), state(false, "a", 0))
	not("a state that no edge leads to, last but one", end, state(false, "a", 0), state(false, "b", 0), state(false, "c", 1))
	not("the end is led to by nothing", end, state(false, ""))
	not("one that leads to nothing, not Final", state(false, ""), state(false, "a", 0))
	not("one that leads to nothing beside one that does", end, state(false, ""), state(false, "ab", 0, 1))
	not("one that leads to it alone", state(false, ""), state(false, "b", 0), end, state(false, "ab", 1, 2))
	not("in another turn", end, state(false, "c", 0), state(false, "b", 0), state(false, "ab", 2, 1))
	not("ends in another turn", state(true, "b", 1), end, state(false, "a", 0))
	not("a first state that is Final", end, state(true, "a", 0))
	not("a first state that is Final, farther on", end, state(false, "b", 0), state(true, "ab", 1, 0))
	not("the first state ahead", state(false, "a", 1), end)
	// Just beside each of them, one that may be.
	checkMay(t, "no words", []api.State{state(false, "")}, true)
	checkMay(t, "one word", []api.State{end, state(false, "a", 0)}, true)
	checkMay(t, "in turn", []api.State{end, state(false, "c", 0), state(false, "b", 0), state(false, "ab", 1, 2)}, true)
}

// shapes are states whose edges are of these bytes, so many at the most, and lead to these states.
func shapes(of string, to []int, most int) []api.State {
	var all []api.State
	lists := [][]api.Edge{nil}
	for range most + 1 {
		var longer [][]api.Edge
		for _, l := range lists {
			all = append(all, api.State{Edges: l}, api.State{Edges: l, Final: true})
			for i := range of {
				for _, n := range to {
					longer = append(longer, append(slices.Clip(l), api.Edge{Byte: of[i], To: n}))
				}
			}
		}
		lists = longer
	}
	return all
}

// rising are those states whose edges rise, of states with two edges at the most.
func rising(l []api.State) []api.State {
	return slices.DeleteFunc(l, func(s api.State) bool { return len(s.Edges) == 2 && s.Edges[0].Byte >= s.Edges[1].Byte })
}

// P14.1: all states, few at a time, held against the automaton of the words that they take.
func TestMayAll(t *testing.T) {
	for _, s := range shapes("ab", []int{-1, 0, 1}, 3) {
		a := []api.State{s}
		checkMay(t, "one", a, expectMay(a))
	}
	may := 0
	of := shapes("ab", []int{-1, 0, 1, 2}, 2)
	for _, s := range of {
		for _, first := range of {
			a := []api.State{s, first}
			if want := expectMay(a); want != May(a) {
				t.Fatalf("May(%v) = %t", a, !want)
			} else if want {
				may++
			}
		}
	}
	// Of two states the first one leads to the other one, by a, by b, or by both.
	if may != 3 {
		t.Errorf("%d of two states may be", may)
	}
}

// P14.1: all three states of two edges at the most, that lead to any of them.
func TestMayThree(t *testing.T) {
	of := rising(shapes("ab", []int{-1, 0, 1, 2, 3}, 2))
	may := 0
	a := make([]api.State, 3)
	for _, a[0] = range of {
		for _, a[1] = range of {
			for _, a[2] = range of {
				if want := expectMay(a); want != May(a) {
					t.Fatalf("May(%v) = %t", a, !want)
				} else if want {
					may++
				}
			}
		}
	}
	// The first state has five ways to lead to the second one, which has six to be above the end.
	if may != 30 {
		t.Errorf("%d of three states may be", may)
	}
}

// turned are automata that are unlike another one at one place.
func turned(a []api.State) [][]api.State {
	var all [][]api.State
	turn := func(f func(b []api.State) []api.State) { all = append(all, f(copied(a))) }
	for i := range a {
		turn(func(b []api.State) []api.State { b[i].Final = !b[i].Final; return b })
		turn(func(b []api.State) []api.State { return slices.Delete(b, i, i+1) })
		turn(func(b []api.State) []api.State { return slices.Insert(b, i, b[i]) })
		turn(func(b []api.State) []api.State { return append(b, b[i]) })
		turn(func(b []api.State) []api.State { b[i], b[0] = b[0], b[i]; return b })
		for to := range len(a) + 1 {
			turn(func(b []api.State) []api.State {
				b[i].Edges = append(b[i].Edges, api.Edge{Byte: 'z', To: to})
				return b
			})
		}
		for k := range a[i].Edges {
			turn(func(b []api.State) []api.State { b[i].Edges[k].Byte++; return b })
			turn(func(b []api.State) []api.State { b[i].Edges = slices.Delete(b[i].Edges, k, k+1); return b })
			turn(func(b []api.State) []api.State { b[i].Edges = slices.Insert(b[i].Edges, k, b[i].Edges[k]); return b })
			for to := -1; to <= len(a); to++ {
				turn(func(b []api.State) []api.State { b[i].Edges[k].To = to; return b })
			}
		}
	}
	return all
}

// P14.1: what was built, turned at one place, held against the automaton of the words that it takes then.
func TestMayTurned(t *testing.T) {
	lists := [][]string{nil, {"a"}, {"a", "ab"}, {"ab", "cb"}, {"a", "ab", "cb"}, {"ac", "ad", "bc", "be"}, {"a", "abc", "abd", "b"}}
	for _, words := range lists {
		a := check(t, "as it was", words)
		for _, b := range turned(a) {
			may := expectMay(b)
			checkMay(t, "turned", b, may)
			if may {
				checkWords(t, "turned", b, 100, true, taken(b))
			} else {
				checkWords(t, "turned", b, 100, false, nil)
			}
			for _, w := range append(words, "", "a", "az", "abz") {
				checkHas(t, "turned", b, w)
			}
		}
	}
}

// P14.2: Has of states that may be whatever, and the empty word.
func TestHas(t *testing.T) {
	has := func(name string, a []api.State, word string, want bool) {
		t.Helper()
		if checkHas(t, name, a, word) != want {
			t.Errorf("%s: Has(%v, %q) = %t", name, a, word, !want)
		}
	}
	for _, word := range []string{"", "a", "\x00"} {
		has("of none at all", nil, word, false)
		has("of none at all", []api.State{}, word, false)
		has("of no words", []api.State{state(false, "")}, word, false)
	}
	end := state(true, "")
	has("the empty word", []api.State{end}, "", true)
	has("beside the empty word", []api.State{end}, "a", false)
	has("the empty word, of another state", []api.State{end, state(false, "a", 0)}, "", false)
	for _, to := range []int{2, 3, -1, math.MinInt, math.MaxInt, 1 << 32} {
		off := []api.State{end, state(true, "ab", to, 0)}
		has("an edge to no state", off, "a", false)
		has("an edge to no state, and on", off, "ab", false)
		has("beside an edge to no state", off, "b", true)
		has("ahead of an edge to no state", off, "", true)
		twice := []api.State{end, state(false, "aa", to, 0)}
		has("the first edge leads to no state", twice, "a", false)
		twice = []api.State{end, state(false, "aa", 0, to)}
		has("the second edge leads to no state", twice, "a", true)
	}
	two := []api.State{end, state(false, "a", 0), state(false, "aa", 0, 1)}
	has("two edges, the first one", two, "a", true)
	has("two edges, the second one", two, "aa", false)
	two[2].Edges[0].To, two[2].Edges[1].To = 1, 0
	has("two edges the other way, the second one", two, "a", false)
	has("two edges the other way, the first one", two, "aa", true)
	fall := []api.State{end, state(false, "cba", 0, 1, 0)}
	has("edges that fall", fall, "a", true)
	has("edges that fall, round", fall, "bbbbbc", true)
	has("edges that fall, round alone", fall, "bbb", false)
	round := []api.State{state(true, "b", 1), state(false, "a", 0)}
	has("round, at the beginning", round, "", false)
	has("round once", round, "a", true)
	has("round and half", round, "aba", true)
	has("round, not Final", round, "ab", false)
	has("round, another byte", round, "aa", false)
	has("round, often", round, strings.Repeat("ab", 100000)+"a", true)
	has("round, often, not Final", round, strings.Repeat("ab", 100000), false)
	signed := []api.State{end, state(false, "\x00\x80\xFF", 0, 0, 0)}
	for c := range 256 {
		has("bytes", signed, string([]byte{byte(c)}), c == 0 || c == 128 || c == 255)
	}
}

// numbered are words of one length, rising, as many as are asked for.
func numbered(n int) []string {
	words := make([]string, n)
	for i := range words {
		words[i] = strconv.Itoa(1000000 + i)
	}
	return words
}

// P14.2: Words with few and many words, most being near to how many there are, and to 100000.
func TestWords(t *testing.T) {
	for _, n := range []int{0, 1, 2, 3, 255, 256, 257, 99999, 100000, 100001, 100002} {
		words := numbered(n)
		a, err := Build(words)
		if err != api.OK {
			t.Fatalf("%d words: %d", n, err)
		}
		for _, most := range edges(n) {
			checkWords(t, strconv.Itoa(n)+" words", a, most, true, words)
		}
	}
	a, _ := Build([]string{"a", "b"})
	if l, err := Words(a, 1); len(l) > 0 || err != api.ErrFull {
		t.Errorf("one of two: %q, %d", l, err)
	}
	if l, err := Words(a, 2); !slices.Equal(l, []string{"a", "b"}) || err != api.OK {
		t.Errorf("two of two: %q, %d", l, err)
	}
	if l, err := Words(a, 100001); len(l) > 0 || err != api.ErrArg {
		t.Errorf("above what may be asked for: %q, %d", l, err)
	}
	none, _ := Build(nil)
	if l, err := Words(none, 0); len(l) > 0 || err != api.OK {
		t.Errorf("none of none: %q, %d", l, err)
	}
}

// P14.2: words rise, whichever begins another one, and whatever bytes they have.
func TestWordsRise(t *testing.T) {
	words := []string{"\x00", "\x00\x00", "\x00\xFF", "a", "a\x00", "a\x00b", "aa", "b", "b\x7F", "b\x80", "\x7F", "\x80", "\x80a", "\xFF", "\xFF\x00", "\xFF\xFF"}
	slices.Sort(words)
	a := check(t, "words", words)
	if l, err := Words(a, 16); err != api.OK || !slices.IsSorted(l) || !slices.Equal(l, words) {
		t.Errorf("%q, %d", l, err)
	}
}

// sets calls f with all lists of some of the words, of which each keeps its turn.
func sets(words []string, f func([]string)) {
	for set := range 1 << len(words) {
		var l []string
		for i, w := range words {
			if set>>i&1 == 1 {
				l = append(l, w)
			}
		}
		f(l)
	}
}

// P14.1, P14.2, P14.3: all words of small alphabets, each list of them, against that list; and each two states.
func TestSmallAlphabets(t *testing.T) {
	small := []struct {
		of      string
		longest int
	}{{"a", 6}, {"ab", 2}, {"\x00\xFF", 2}, {"abc", 1}, {"ab", 3}, {"\x7F\x80\xFF", 2}}
	for _, s := range small {
		of := []byte(s.of)
		asked := texts(of, s.longest+1)
		sets(texts(of, s.longest)[1:], func(l []string) {
			a := checkBuild(t, s.of, l)
			checkMay(t, s.of, a, true)
			checkWords(t, s.of, a, len(l), true, l)
			checkWords(t, s.of, a, len(l)-1, true, l)
			is := map[string]bool{}
			for _, w := range l {
				is[w] = true
			}
			for _, w := range asked {
				if Has(a, w) != is[w] {
					t.Fatalf("the automaton of %q takes %q: %t", l, w, !is[w])
				}
			}
			if len(a) < 8 {
				checkUnlike(t, s.of, a)
			}
		})
	}
}

// mask is which of some texts states take, bit by bit.
func mask(a []api.State, asked []string) uint64 {
	var m uint64
	for i, w := range asked {
		if expectHas(a, -1, w) {
			m |= 1 << i
		}
	}
	return m
}

// P14.3: no automaton of the same words has fewer states: all of one to three states are tried, also those that go round.
func TestFewest(t *testing.T) {
	asked := texts([]byte("ab"), 4) // 31
	fewest := map[uint64]int{}
	try := func(a []api.State) {
		m := mask(a, asked)
		if n, is := fewest[m]; !is || len(a) < n {
			fewest[m] = len(a)
		}
	}
	one := shapes("ab", []int{0}, 2)
	for i := range one {
		try(one[i : i+1])
	}
	two, three := rising(shapes("ab", []int{0, 1}, 2)), rising(shapes("ab", []int{0, 1, 2}, 2))
	for _, s := range two {
		for _, first := range two {
			try([]api.State{s, first})
		}
	}
	a := make([]api.State, 3)
	for _, a[0] = range three {
		for _, a[1] = range three {
			for _, a[2] = range three {
				try(a)
			}
		}
	}
	tried := 0
	sets(texts([]byte("ab"), 2)[1:], func(l []string) {
		built, err := Build(l)
		if err != api.OK {
			t.Fatalf("Build(%q): %d", l, err)
		}
		n, is := fewest[mask(built, asked)]
		if is && n != len(built) || !is && len(built) < 4 {
			t.Errorf("Build(%q) has %d states; %d are enough", l, len(built), n)
		}
		if is {
			tried++
		}
	})
	if tried < 20 {
		t.Errorf("only %d lists have three states or fewer", tried)
	}
}

// R3: what is handed in stays as it is, and what is told is the caller's own.
func TestSharesNothing(t *testing.T) {
	room := []string{"a", "ab", "cb", "x", "y"}
	words := room[:3]
	want := expectStates(words)
	a := checkBuild(t, "within more memory", words)
	other := checkBuild(t, "again", words)
	for i := range a {
		// Behind this list there may be room, in which no other one may stand.
		_ = append(a[i].Edges, api.Edge{Byte: 'x', To: 77}, api.Edge{Byte: 'y', To: 78})
	}
	if !same(a, want) {
		t.Fatalf("turned by what was laid behind: %v", a)
	}
	for i := range a {
		clear(a[i].Edges)
		if !same(a[i+1:], want[i+1:]) {
			t.Fatalf("turned with those of state %d: %v", i, a)
		}
	}
	if !same(other, want) || !slices.Equal(room, []string{"a", "ab", "cb", "x", "y"}) {
		t.Fatalf("turned to %v, %q", other, room)
	}
	l, err := Words(other, 3)
	if err != api.OK {
		t.Fatal(err)
	}
	clear(l)
	_ = append(l, "x", "y")
	checkWords(t, "again", other, 3, true, words)
	l, _ = Words(other, 3)
	for i := range other {
		clear(other[i].Edges)
	}
	clear(room)
	if !slices.Equal(l, []string{"a", "ab", "cb"}) {
		t.Errorf("what was handed in, turned: %q", l)
	}
}

// R3: also what stands behind states and edges in their memory.
func TestBehind(t *testing.T) {
	room := []api.Edge{{Byte: 'a', To: 0}, {Byte: 'b', To: 0}, {Byte: 'c', To: 7}}
	states := []api.State{state(true, ""), {Edges: room[:2]}, state(true, "x", 9)}
	a := states[:2]
	checkMay(t, "within more memory", a, true)
	checkWords(t, "within more memory", a, 2, true, []string{"a", "b"})
	checkHas(t, "within more memory", a, "c")
	if !same(states[2:], []api.State{state(true, "x", 9)}) || room[2] != (api.Edge{Byte: 'c', To: 7}) {
		t.Errorf("turned to %v, %v", states, room)
	}
}

// R4: nothing is kept from call to call, and nothing hangs on the order of a map.
func TestKeepsNothing(t *testing.T) {
	words := numbered(300)
	want := expectStates(words)
	for n := range 60 {
		checkBuild(t, "others", numbered(n))
		refused(t, "others", api.ErrOrder, "b", "a")
		checkMay(t, "others", []api.State{state(true, "")}, false)
		got, err := Build(words)
		if err != api.OK || !same(got, want) {
			t.Fatalf("again: %v, %d; want %v", short(got), err, short(want))
		}
		checkMay(t, "again", got, true)
		checkWords(t, "again", got, 300, true, words)
	}
}

// anyWords are words by chance, rising, none of them empty.
func anyWords(r *rand.Rand) []string {
	of := []string{"a", "ab", "abc", "\x00\x7F\x80\xFF", "abcdefghijklmnopqrstuvwxyz"}[r.Intn(5)]
	words := make([]string, r.Intn(40))
	for i := range words {
		w := make([]byte, 1+r.Intn(7))
		for k := range w {
			w[k] = of[r.Intn(len(of))]
		}
		words[i] = string(w)
	}
	slices.Sort(words)
	return slices.Compact(words)
}

// P14.1, P14.2, P14.3: words by chance.
func TestAny(t *testing.T) {
	r := rand.New(rand.NewSource(1411))
	for range 300 {
		words := anyWords(r)
		a := check(t, "any", words)
		if len(words) > 1 {
			i, k := r.Intn(len(words)), r.Intn(len(words))
			words[i], words[k] = words[k], words[i]
			checkBuild(t, "two that change places", words)
			words[i] = words[k]
			checkBuild(t, "one twice", words)
			words[i] = ""
			checkBuild(t, "an empty one", words)
		}
		i := r.Intn(len(a))
		a[i].Final = !a[i].Final
		for _, w := range words {
			checkHas(t, "turned", a, w)
		}
	}
}

// P14.1, P14.2: states by chance, few of them.
func TestAnyStates(t *testing.T) {
	r := rand.New(rand.NewSource(1412))
	for range 3000 {
		a := make([]api.State, r.Intn(5))
		for i := range a {
			a[i].Final = r.Intn(2) == 0
			for range r.Intn(3) {
				a[i].Edges = append(a[i].Edges, api.Edge{Byte: "abc"[r.Intn(3)], To: r.Intn(len(a)+2) - 1})
			}
		}
		may := expectMay(a)
		checkMay(t, "any", a, may)
		checkWords(t, "any", a, 100, may, taken(a))
		for _, w := range texts([]byte("abc"), 4) {
			checkHas(t, "any", a, w)
		}
	}
}

// ladder is an automaton of as many steps, in each of which it takes a or b.
func ladder(steps int) []api.State {
	a := []api.State{state(true, "")}
	for i := range steps {
		a = append(a, state(false, "ab", i, i))
	}
	return a
}

// P1, P14.2: few states that take more words than can be counted.
func TestLadder(t *testing.T) {
	for _, steps := range []int{1, 2, 16, 17, 31, 32, 62, 63, 64, 65, 128, 5000} {
		a := ladder(steps)
		checkMay(t, "a ladder", a, true)
		if steps > 16 {
			for _, most := range []int{0, 1, 99999, 100000} {
				if l, err := Words(a, most); len(l) > 0 || err != api.ErrFull {
					t.Errorf("%d steps: %d words, %d", steps, len(l), err)
				}
			}
			continue
		}
		words := slices.DeleteFunc(texts([]byte("ab"), steps), func(w string) bool { return len(w) < steps })
		for _, most := range edges(len(words)) {
			checkWords(t, "a ladder", a, most, true, words)
		}
	}
}

// P1, P14.2: more words than are asked for, each of them long: none of them is told.
func TestLong(t *testing.T) {
	n := 300000
	a := []api.State{state(true, "")}
	for i := range n - 1 {
		a = append(a, state(true, "a", i))
	}
	a = append(a, state(false, "a", n-1))
	if !May(a) {
		t.Fatal("it may be")
	}
	if l, err := Words(a, 100000); len(l) > 0 || err != api.ErrFull {
		t.Errorf("%d words, %d", len(l), err)
	}
	if !Has(a, strings.Repeat("a", n)) || Has(a, strings.Repeat("a", n+1)) || Has(a, "") {
		t.Error("Has")
	}
}

// P1: a word of many bytes, and states as many as they.
func TestDeep(t *testing.T) {
	n := 1 << 17
	word := strings.Repeat("ab", n/2)
	a, err := Build([]string{word})
	if err != api.OK || len(a) != n+1 || !May(a) || !Has(a, word) || Has(a, word[1:]) {
		t.Fatalf("%d states, %d", len(a), err)
	}
	if l, err := Words(a, 1); err != api.OK || len(l) != 1 || l[0] != word {
		t.Errorf("%d words, %d", len(l), err)
	}
	a[0], a[1] = a[1], a[0]
	if May(a) {
		t.Error("in another turn")
	}
}

// P1, P14.3: many words.
func TestMany(t *testing.T) {
	words := numbered(90000)
	a, err := Build(words)
	if err != api.OK || !May(a) {
		t.Fatal(err)
	}
	// Of 1000000 to 1089999: what is behind the third figure are all numbers of four figures.
	want := []api.State{state(true, "")}
	ten := "0123456789"
	for i := range 4 {
		want = append(want, state(false, ten, i, i, i, i, i, i, i, i, i, i))
	}
	want = append(want, state(false, ten[:9], 4, 4, 4, 4, 4, 4, 4, 4, 4), state(false, "0", 5), state(false, "1", 6))
	if !same(a, want) {
		t.Errorf("%v; want %v", a, want)
	}
	checkWords(t, "many", a, 90000, true, words)
	r := rand.New(rand.NewSource(1413))
	mixed := make([]string, 60000)
	for i := range mixed {
		b := make([]byte, 8)
		r.Read(b)
		mixed[i] = string(b[:1+r.Intn(8)])
	}
	slices.Sort(mixed)
	mixed = slices.Compact(mixed)
	if a, err = Build(mixed); err != api.OK || !May(a) {
		t.Fatal(err)
	}
	checkWords(t, "mixed", a, 100000, true, mixed)
}

// P1, P14.1, P14.2, P14.3: any words, of any bytes, as they come, and rising.
func FuzzBuild(f *testing.F) {
	f.Add("ab cb", " ")
	f.Add("bat bats cat cats rat", " ")
	f.Add("a a", " ")
	f.Add("b\x00\x00a", "\x00")
	f.Add("\x00\x7F\x80\xFF", "")
	f.Fuzz(func(t *testing.T, text, mark string) {
		words := strings.Split(text[:min(len(text), 60)], mark)
		checkBuild(t, "as they come", words)
		slices.Sort(words)
		words = slices.Compact(words)
		check(t, "rising", slices.DeleteFunc(words, func(w string) bool { return w == "" }))
	})
}

// P1, P14.1, P14.2: any states, each edge told by a byte, of which some end a state.
func FuzzMay(f *testing.F) {
	f.Add([]byte{0x80, 0x00, 0x01, 0xC0}, "aab")
	f.Add([]byte{0x81, 0x01, 0xC0, 0x05, 0xC0}, "b")
	f.Fuzz(func(t *testing.T, b []byte, word string) {
		var a []api.State
		var s api.State
		for _, c := range b {
			switch {
			case len(a) == 4:
			case c >= 0x80:
				s.Final = c < 0xC0
				a, s = append(a, s), api.State{}
			default:
				s.Edges = append(s.Edges, api.Edge{Byte: 'a' + c%3, To: int(c>>2%8) - 2})
			}
		}
		word = word[:min(len(word), 1000)]
		may := expectMay(a)
		checkMay(t, "any", a, may)
		checkWords(t, "any", a, len(word), may, taken(a))
		checkHas(t, "any", a, word)
	})
}
