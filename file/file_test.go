package file

import (
	"bytes"
	"encoding/binary"
	"hash/crc32"
	"math"
	"math/rand"
	"slices"
	"strconv"
	"strings"
	"testing"

	"mantelet/api"
	"mantelet/daw"
	"mantelet/run"
)

// state is a state; its edges are told by bytes and where each of these leads.
func state(final bool, bytes string, to ...int) api.State {
	s := api.State{Final: final}
	for i, n := range to {
		s.Edges = append(s.Edges, api.Edge{Byte: bytes[i], To: n})
	}
	return s
}

func sameStates(a, b []api.State) bool {
	return slices.EqualFunc(a, b, func(a, b api.State) bool {
		return a.Final == b.Final && slices.Equal(a.Edges, b.Edges)
	})
}

func same(a, b Dict) bool {
	return sameStates(a.States, b.States) && slices.Equal(a.Counts, b.Counts) && slices.Equal(a.Classes, b.Classes)
}

// copied is a dictionary in memory of its own.
func copied(d Dict) Dict {
	out := Dict{States: slices.Clone(d.States), Counts: slices.Clone(d.Counts), Classes: slices.Clone(d.Classes)}
	for i := range out.States {
		out.States[i].Edges = slices.Clone(out.States[i].Edges)
	}
	return out
}

func few[T any](l []T) []T {
	return l[:min(len(l), 12)]
}

// show is as much of a dictionary as a message has room for.
func show(d Dict) Dict {
	return Dict{States: few(d.States), Counts: few(d.Counts), Classes: few(d.Classes)}
}

// entries are words, with counts in turn, again and again.
func entries(words []string, counts ...uint64) []api.Entry {
	l := make([]api.Entry, len(words))
	for i, w := range words {
		l[i] = api.Entry{Word: w, Count: counts[i%len(counts)]}
	}
	return l
}

// behind are what is left of words that begin with a byte, behind it.
func behind(words []string, c byte) []string {
	var rests []string
	for _, w := range words {
		if w != "" && w[0] == c {
			rests = append(rests, w[1:])
		}
	}
	return rests
}

// expectStates are the automaton of words: each list of what is left of some of them is a state, whose number is that of its leaving.
func expectStates(words []string) []api.State {
	var states []api.State
	numbers := map[string]int{}
	var leave func(rests []string) int
	leave = func(rests []string) int {
		k := ""
		for _, r := range rests {
			k += strconv.Itoa(len(r)) + ":" + r
		}
		if n, is := numbers[k]; is {
			return n
		}
		s := api.State{Final: len(rests) > 0 && rests[0] == ""}
		for c := range 256 {
			if further := behind(rests, byte(c)); further != nil {
				s.Edges = append(s.Edges, api.Edge{Byte: byte(c), To: leave(further)})
			}
		}
		numbers[k] = len(states)
		states = append(states, s)
		return numbers[k]
	}
	leave(words)
	return states
}

// expectClasses are how many unlike counts are above each one's own, 255 at most.
func expectClasses(counts []uint64) []int {
	unlike := slices.Compact(slices.Sorted(slices.Values(counts)))
	classes := make([]int, len(counts))
	for i, n := range counts {
		at, _ := slices.BinarySearch(unlike, n)
		classes[i] = min(len(unlike)-1-at, 255)
	}
	return classes
}

// expectDict is the dictionary of entries that may be.
func expectDict(l []api.Entry) Dict {
	var words []string
	var counts []uint64
	for _, e := range l {
		words, counts = append(words, e.Word), append(counts, e.Count)
	}
	return Dict{States: expectStates(words), Counts: counts, Classes: expectClasses(counts)}
}

// record is that of a payload, by the library alone.
func record(payload []byte) []byte {
	b := binary.AppendUvarint(nil, uint64(len(payload)))
	b = append(b, payload...)
	return binary.LittleEndian.AppendUint32(b, crc32.ChecksumIEEE(payload))
}

// records are those of payloads, one behind the other.
func records(payloads ...[]byte) []byte {
	var b []byte
	for _, p := range payloads {
		b = append(b, record(p)...)
	}
	return b
}

// payloads are what a dictionary's records have, by the library alone.
func payloads(d Dict) [][]byte {
	states := binary.AppendUvarint(nil, uint64(len(d.States)))
	for i, s := range d.States {
		n := 2 * uint64(len(s.Edges))
		if s.Final {
			n++
		}
		states = binary.AppendUvarint(states, n)
		for _, e := range s.Edges {
			states = binary.AppendUvarint(append(states, e.Byte), uint64(i-e.To))
		}
	}
	counts := binary.AppendUvarint(nil, uint64(len(d.Counts)))
	for _, n := range d.Counts {
		counts = binary.AppendUvarint(counts, n)
	}
	var classes []byte
	for _, c := range d.Classes {
		classes = append(classes, byte(c))
	}
	return [][]byte{[]byte("MANTELET"), states, counts, classes}
}

// bytesOf are a dictionary's bytes.
func bytesOf(d Dict) []byte {
	return records(payloads(d)...)
}

// checkMake holds Make against what is told, and against R1 and R3.
func checkMake(t *testing.T, name string, l []api.Entry, want Dict, wantErr api.Errno) {
	t.Helper()
	was := slices.Clone(l)
	got, err := Make(l)
	if err != wantErr || !same(got, want) {
		t.Fatalf("%s: Make(%v) = %v, %d; want %v, %d", name, few(was), show(got), err, show(want), wantErr)
	}
	if !slices.Equal(l, was) {
		t.Fatalf("%s: Make turned %v to %v", name, few(was), few(l))
	}
}

// checkEncode holds Encode against what is told, and against R1 and R3.
func checkEncode(t *testing.T, name string, d Dict, want []byte, wantErr api.Errno) {
	t.Helper()
	was := copied(d)
	got, err := Encode(d)
	if err != wantErr || !bytes.Equal(got, want) {
		t.Fatalf("%s: Encode(%v) = %d bytes %d, %d; want %d bytes %d, %d", name, show(was), len(got), few(got), err, len(want), few(want), wantErr)
	}
	if !same(d, was) {
		t.Fatalf("%s: Encode turned %v to %v", name, show(was), show(d))
	}
}

// checkDecode holds Decode against what is told, and against R1 and R3.
func checkDecode(t *testing.T, name string, b []byte, want Dict, wantErr api.Errno) {
	t.Helper()
	was := bytes.Clone(b)
	got, err := Decode(b)
	if err != wantErr || !same(got, want) {
		t.Fatalf("%s: Decode(%d) = %v, %d; want %v, %d", name, was[:min(len(was), 200)], show(got), err, show(want), wantErr)
	}
	if !bytes.Equal(b, was) {
		t.Fatalf("%s: Decode turned %d to %d", name, was[:min(len(was), 200)], b[:min(len(b), 200)])
	}
}

// refused is that nothing is decoded of bytes.
func refused(t *testing.T, name string, b []byte) {
	t.Helper()
	checkDecode(t, name, b, Dict{}, api.ErrForm)
}

// isNone is that a dictionary isn't that of any entries: it isn't encoded, nor are its bytes decoded.
func isNone(t *testing.T, name string, d Dict) {
	t.Helper()
	checkEncode(t, name, d, nil, api.ErrArg)
	refused(t, name, bytesOf(d))
}

// check holds all that is promised of entries that may be, and tells their dictionary.
func check(t *testing.T, name string, l []api.Entry) Dict {
	t.Helper()
	want := expectDict(l)
	checkMake(t, name, l, want, api.OK)
	checkEncode(t, name, want, bytesOf(want), api.OK)
	checkDecode(t, name, bytesOf(want), want, api.OK)
	d, _ := Make(l)
	b, _ := Encode(d)
	checkDecode(t, name, b, d, api.OK)
	return d
}

// written is that the records of entries have the payloads that are written out here.
func written(t *testing.T, name string, l []api.Entry, states, counts, classes []byte) {
	t.Helper()
	d := check(t, name, l)
	checkEncode(t, name, d, records([]byte("MANTELET"), states, counts, classes), api.OK)
}

// P16.1, P16.2: the chapter's example, byte by byte.
func TestNone(t *testing.T) {
	none := Dict{States: []api.State{{}}}
	b := []byte("\x08MANTELET\x00\x00\x00\x00\x02\x01\x00\x00\x00\x00\x00\x01\x00\x00\x00\x00\x00\x00\x00\x00\x00\x00")
	binary.LittleEndian.PutUint32(b[9:], crc32.ChecksumIEEE([]byte("MANTELET")))
	binary.LittleEndian.PutUint32(b[16:], crc32.ChecksumIEEE([]byte{1, 0}))
	binary.LittleEndian.PutUint32(b[22:], crc32.ChecksumIEEE([]byte{0}))
	written(t, "none", nil, []byte{1, 0}, []byte{0}, nil)
	checkMake(t, "none", []api.Entry{}, none, api.OK)
	checkEncode(t, "none", none, b, api.OK)
	checkDecode(t, "none", b, none, api.OK)
	empty := Dict{States: []api.State{{Edges: []api.Edge{}}}, Counts: []uint64{}, Classes: []int{}}
	checkEncode(t, "empty", empty, b, api.OK)
}

// P16.1: records, written out: states, edges ahead and far, ends that go on, counts and classes.
func TestWritten(t *testing.T) {
	words := []string{"ab", "b", "cb"}
	written(t, "three", entries(words, 300, 7, 300), []byte{3, 1, 2, 'b', 1, 6, 'a', 1, 'b', 2, 'c', 1}, []byte{3, 172, 2, 7, 172, 2}, []byte{0, 1, 0})
	written(t, "one", entries([]string{"a"}, 1), []byte{2, 1, 2, 'a', 1}, []byte{1, 1}, []byte{0})
	written(t, "ends that go on", entries([]string{"a", "ab", "abc", "b"}, 5, 9, 5, 1), []byte{4, 1, 3, 'c', 1, 3, 'b', 1, 4, 'a', 1, 'b', 3}, []byte{4, 5, 9, 5, 1}, []byte{1, 0, 1, 2})
	words = []string{"\x00", "\x7F", "\x80", "\xFF"}
	written(t, "bytes", entries(words, 1, 127, 128, 1<<62), []byte{2, 1, 8, 0, 1, 127, 1, 128, 1, 255, 1}, []byte{4, 1, 127, 128, 1, 128, 128, 128, 128, 128, 128, 128, 128, 64}, []byte{3, 2, 1, 0})
}

// P16.1: entries that may not be.
func TestMakeErrors(t *testing.T) {
	fails := func(name string, want api.Errno, l ...api.Entry) {
		t.Helper()
		checkMake(t, name, l, Dict{}, want)
		if err := run.May(l); err != want {
			t.Errorf("%s: run.May: %d", name, err)
		}
	}
	long := strings.Repeat("x", 255)
	a := api.Entry{Word: "a", Count: 1}
	fails("an empty word", api.ErrArg, api.Entry{Count: 1})
	fails("an empty word ahead", api.ErrArg, api.Entry{Count: 1}, a)
	fails("an empty word behind", api.ErrArg, a, api.Entry{Count: 1})
	fails("a long word", api.ErrArg, a, api.Entry{Word: long + "x", Count: 1})
	fails("a count of 0", api.ErrArg, a, api.Entry{Word: "b"})
	fails("a count above", api.ErrArg, a, api.Entry{Word: "b", Count: 1<<62 + 1})
	fails("a count far above", api.ErrArg, a, api.Entry{Word: "b", Count: 1<<64 - 1})
	fails("a word twice", api.ErrOrder, a, a)
	fails("falling", api.ErrOrder, api.Entry{Word: "b", Count: 1}, a)
	fails("falling as bytes", api.ErrOrder, api.Entry{Word: "\x80", Count: 1}, api.Entry{Word: "\x7F", Count: 1})
	fails("falling ahead of an empty one", api.ErrArg, api.Entry{Word: "b", Count: 1}, a, api.Entry{Count: 1})
	fails("falling ahead of a count of 0", api.ErrArg, api.Entry{Word: "b", Count: 1}, api.Entry{Word: "a"})
	check(t, "a word of 255", []api.Entry{a, {Word: long, Count: 1 << 62}})
	check(t, "words of 255", []api.Entry{{Word: long[1:], Count: 1}, {Word: long, Count: 2}, {Word: long[1:] + "y", Count: 2}})
}

// P16.1, P16.3: words whose states share beginnings and ends.
func TestShared(t *testing.T) {
	lists := [][]string{
		{"ab", "cb"}, {"a", "ab"}, {"a", "aa", "aaa", "aaaa"}, {"bat", "bats", "cat", "cats", "rat"},
		{"ac", "ad", "bc", "bd"}, {"a", "ab", "c", "cb"}, {"tap", "taps", "top", "tops"}, {"abc", "abd", "xbc", "xbd", "xbe"},
		{"aaaaaaaaab", "aaaaaaaab", "b"}, {"a", "b", "ba", "bb", "bba"}, {"don't", "don’t", "stop"}, {"z", "ä", "ö"},
	}
	for _, words := range lists {
		check(t, words[0], entries(words, 1))
		check(t, words[0], entries(words, 5, 9, 5, 1))
		check(t, words[0], entries(words, 1<<62, 128, 127, 1))
	}
	var all, pairs []string
	for c := range 256 {
		all = append(all, string([]byte{byte(c)}))
		pairs = append(pairs, string([]byte{byte(c)}), string([]byte{byte(c), byte(255 - c)}))
	}
	check(t, "all bytes", entries(all, 3, 2))
	check(t, "pairs", entries(pairs, 3, 200, 2))
}

// P16.1: edges that lead 127, 128 states below, and more.
func TestFarEdges(t *testing.T) {
	for _, n := range []int{125, 126, 127, 128, 129, 250, 254} {
		l := entries([]string{"a", "b" + strings.Repeat("c", n)}, 1)
		d := check(t, strconv.Itoa(n), l)
		if last := len(d.States) - 1; d.States[last].Edges[0].To != 0 || last != n+1 {
			t.Errorf("%d: %v", n, d.States[last])
		}
	}
	var words []string
	for c := range 200 {
		words = append(words, string([]byte{byte(c)})+strings.Repeat(string([]byte{byte(c), byte(c / 3)}), 50))
	}
	d := check(t, "many states", entries(append(words, "\xFF"), 7))
	last := d.States[len(d.States)-1]
	if e := last.Edges[len(last.Edges)-1]; e.To != 0 || len(d.States) < 1<<14 {
		t.Errorf("%d states, %v", len(d.States), e)
	}
}

// P16.1: counts 1, 127, 128 and others at which a number has a byte more, and those that may not be.
func TestCounts(t *testing.T) {
	d := check(t, "one", entries([]string{"a", "b"}, 1, 1))
	for n := uint(0); n <= 62; n++ {
		for _, count := range []uint64{1<<n - 1, 1 << n, 1<<n + 1} {
			if count > 0 && count <= 1<<62 {
				check(t, strconv.FormatUint(count, 10), entries([]string{"a", "b"}, count, 1<<62))
			}
		}
	}
	for _, count := range []uint64{0, 1<<62 + 1, 1 << 63, 1<<63 + 1, 1<<64 - 1} {
		for i := range 2 {
			bad := copied(d)
			bad.Counts[i] = count
			bad.Classes = expectClasses(bad.Counts)
			isNone(t, strconv.FormatUint(count, 10), bad)
			bad.Classes = []int{0, 0}
			isNone(t, strconv.FormatUint(count, 10), bad)
		}
	}
}

// P16.1: as many unlike counts as there are classes, and more.
func TestClasses(t *testing.T) {
	for _, n := range []int{127, 128, 129, 255, 256, 257, 258, 600} {
		var l []api.Entry
		for i := range n {
			l = append(l, api.Entry{Word: strconv.Itoa(1000 + i), Count: uint64(1 + i*7919%n)})
		}
		d := check(t, strconv.Itoa(n), l)
		if most := slices.Max(d.Classes); most != min(n-1, 255) {
			t.Errorf("%d: %d", n, most)
		}
	}
}

// P16.1, P16.2: what is no dictionary, for what stands beside the states.
func TestNoDict(t *testing.T) {
	d := check(t, "three", entries([]string{"a", "b", "c"}, 300, 7, 300))
	not := func(name string, turn func(d *Dict)) {
		t.Helper()
		bad := copied(d)
		turn(&bad)
		isNone(t, name, bad)
	}
	not("fewer counts", func(d *Dict) { d.Counts = d.Counts[:2] })
	not("no counts", func(d *Dict) { d.Counts = nil })
	not("more counts", func(d *Dict) { d.Counts = append(d.Counts, 7) })
	not("fewer counts, and classes", func(d *Dict) { d.Counts, d.Classes = d.Counts[:2], d.Classes[:2] })
	not("more counts, and classes", func(d *Dict) { d.Counts, d.Classes = append(d.Counts, 7), append(d.Classes, 1) })
	not("neither", func(d *Dict) { d.Counts, d.Classes = nil, nil })
	not("fewer classes", func(d *Dict) { d.Classes = d.Classes[:2] })
	not("no classes", func(d *Dict) { d.Classes = nil })
	not("more classes", func(d *Dict) { d.Classes = append(d.Classes, 0) })
	for i := range 3 {
		for _, c := range []int{0, 1, 2, 3, 254, 255} {
			if c != d.Classes[i] {
				not("another class", func(d *Dict) { d.Classes[i] = c })
			}
		}
	}
	not("all of one class", func(d *Dict) { clear(d.Classes) })
	not("classes turned", func(d *Dict) { d.Classes = []int{1, 0, 1} })
	not("classes with a hole", func(d *Dict) { d.Classes = []int{0, 2, 0} })
	not("counts turned", func(d *Dict) { d.Counts = []uint64{7, 300, 7} })
	// Classes of which the lowest byte alone is right.
	for _, c := range []int{-256, 256, 512, math.MinInt, 1 << 32} {
		bad := copied(d)
		bad.Classes[0] = c
		checkEncode(t, "a class far off", bad, nil, api.ErrArg)
		bad.Classes[0], bad.Classes[1] = 0, c+1
		checkEncode(t, "a class far off", bad, nil, api.ErrArg)
	}
	none := Dict{}
	isNone(t, "nothing at all", none)
	checkEncode(t, "no states", Dict{States: []api.State{}, Counts: []uint64{}, Classes: []int{}}, nil, api.ErrArg)
	checkEncode(t, "no states, one word", Dict{Counts: []uint64{1}, Classes: []int{0}}, nil, api.ErrArg)
	none.States = []api.State{{}}
	none.Counts, none.Classes = []uint64{1}, []int{0}
	isNone(t, "a word of none", none)
}

// P16.1, P16.2: states that are no automaton of words, with as many counts as there may be.
func TestNoStates(t *testing.T) {
	not := func(name string, a ...api.State) {
		t.Helper()
		for n := range 5 {
			d := Dict{States: a}
			for range n {
				d.Counts, d.Classes = append(d.Counts, 1), append(d.Classes, 0)
			}
			isNone(t, name, d)
		}
	}
	end := state(true, "")
	not("none at all")
	not("a first state that is Final, alone", end)
	not("an edge to itself", state(false, "a", 0))
	not("an edge to itself and one on", end, state(false, "ab", 0, 1))
	not("an edge to itself, behind", end, state(false, "ab", 1, 0))
	not("an edge to a later state", end, state(false, "a", 2), state(false, "a", 1))
	not("an edge to a later state, but none round", end, state(true, "a", 2), state(true, "b", 0), state(false, "ab", 1, 2))
	not("round", end, state(true, "a", 2), state(false, "b", 1))
	not("an edge to no state", end, state(false, "a", 2))
	not("an edge to no state, far off", end, state(false, "ab", 0, math.MaxInt))
	not("an edge below 0", end, state(false, "a", -1))
	not("an edge below 0, far off", end, state(false, "ab", 0, math.MinInt))
	not("an edge below 0, alone", state(false, "a", -1))
	not("edges that fall", end, state(false, "ba", 0, 0))
	not("edges that fall as bytes", end, state(false, "\x80\x7F", 0, 0))
	not("two edges of one byte", end, state(false, "aa", 0, 0))
	not("two states alike at the end", end, end, state(false, "ab", 0, 1))
	not("two states alike farther on", end, state(false, "b", 0), state(false, "b", 0), state(false, "ac", 1, 2))
	not("a state that no edge leads to", end, state(true, "a", 0), state(false, "a", 0))
	not("one that leads to nothing, not Final", state(false, ""), state(false, "a", 0))
	not("one that leads to nothing beside one that does", end, state(false, ""), state(false, "ab", 0, 1))
	not("in another turn", end, state(false, "c", 0), state(false, "b", 0), state(false, "ab", 2, 1))
	not("a first state that is Final", end, state(true, "a", 0))
	not("the first state ahead", state(false, "a", 1), end)
	check(t, "just beside them", entries([]string{"ac", "bb"}, 1))
}

// chain is the automaton of one word of so many bytes.
func chain(n int) []api.State {
	a := []api.State{state(true, "")}
	for i := range n {
		a = append(a, state(false, "x", i))
	}
	return a
}

// P16.1, P16.2: an automaton of words that are longer than those of entries are.
func TestLongWords(t *testing.T) {
	one := func(a []api.State) Dict {
		return Dict{States: a, Counts: []uint64{1}, Classes: []int{0}}
	}
	d := one(chain(255))
	checkEncode(t, "255", d, bytesOf(d), api.OK)
	checkDecode(t, "255", bytesOf(d), d, api.OK)
	for _, n := range []int{256, 257, 511, 512, 1000, 70000} {
		if !daw.May(chain(n)) {
			t.Fatalf("%d may not be", n)
		}
		isNone(t, strconv.Itoa(n), one(chain(n)))
	}
	// A short word and a long one.
	for _, first := range []api.State{state(false, "ax", 255, 0), state(false, "xy", 0, 255), state(false, "xy", 254, 255)} {
		d := Dict{States: append(chain(255), first), Counts: []uint64{1, 1}, Classes: []int{0, 0}}
		isNone(t, "a long one and another", d)
	}
	ends := one(chain(255))
	ends.States = append(ends.States, state(false, "x", 255))
	for i := range ends.States[:256] {
		ends.States[i].Final = true
	}
	ends.Counts, ends.Classes = slices.Repeat([]uint64{1}, 256), make([]int, 256)
	isNone(t, "all of 1 to 256", ends)
}

// ladder is an automaton of as many steps, in each of which it takes one of two bytes.
func ladder(steps int) []api.State {
	a := []api.State{state(true, "")}
	for i := range steps {
		a = append(a, state(false, "ab", i, i))
	}
	return a
}

// P16.1, P16.2, P1: states that take far more words than there are counts, or than can be counted.
func TestTooManyWords(t *testing.T) {
	for _, steps := range []int{20, 31, 32, 40, 61, 62, 63, 64, 65, 128, 254, 255, 256} {
		for _, n := range []int{0, 1, 2, 1 << 10} {
			d := Dict{States: ladder(steps), Counts: slices.Repeat([]uint64{1}, n), Classes: make([]int, n)}
			isNone(t, strconv.Itoa(steps), d)
		}
	}
	d := Dict{States: ladder(16), Counts: slices.Repeat([]uint64{1}, 1<<16), Classes: make([]int, 1<<16)}
	checkEncode(t, "16", d, bytesOf(d), api.OK)
	checkDecode(t, "16", bytesOf(d), d, api.OK)
}

// ladderDict is the dictionary of so many counts of 1, less than 2^20, and of more a few.
func ladderDict(t *testing.T, count int, counts ...uint64) Dict {
	t.Helper()
	words := make([]string, count)
	for i := range words {
		w := make([]byte, 20)
		for k := range w {
			w[k] = "ab"[i>>(19-k)&1]
		}
		words[i] = string(w)
	}
	a, err := daw.Build(words)
	if err != api.OK {
		t.Fatalf("daw.Build: %d", err)
	}
	d := Dict{States: a, Counts: slices.Repeat([]uint64{1}, count)}
	copy(d.Counts[count/2:], counts)
	d.Classes = expectClasses(d.Counts)
	return d
}

// P16.1: a record of counts of 2^20 bytes, and one more.
func TestFullCounts(t *testing.T) {
	size := func(d Dict) int { return len(payloads(d)[2]) }
	try := func(name string, d Dict, want int) {
		t.Helper()
		if size(d) != want {
			t.Fatalf("%s: %d bytes", name, size(d))
		}
		if want > 1<<20 {
			checkEncode(t, name, d, nil, api.ErrFull)
			refused(t, name, bytesOf(d))
			d.Classes[0]++
			checkEncode(t, name+", no dictionary", d, nil, api.ErrArg)
			return
		}
		checkEncode(t, name, d, bytesOf(d), api.OK)
		checkDecode(t, name, bytesOf(d), d, api.OK)
	}
	most := 1<<20 - 3 // three bytes tell how many there are
	try("just full", ladderDict(t, most), 1<<20)
	try("one more", ladderDict(t, most+1), 1<<20+1)
	try("just full, by a count of 128", ladderDict(t, most-1, 128), 1<<20)
	try("one more, by a count of 128", ladderDict(t, most, 128), 1<<20+1)
	try("one more, by 2^62", ladderDict(t, most-8, 1<<62, 127, 128), 1<<20+1)
}

// longWords are so many words of 255 bytes, rising, that share little.
func longWords(n int) []string {
	r := rand.New(rand.NewSource(1601))
	words := make([]string, n)
	for i := range words {
		w := make([]byte, 255)
		for k := range w {
			w[k] = byte(r.Intn(256))
		}
		words[i] = string(w)
	}
	slices.Sort(words)
	return words
}

// statesFull is a dictionary the record of whose states has so many bytes.
func statesFull(t *testing.T, words []string, want int) Dict {
	t.Helper()
	dict := func(words []string) (Dict, int) {
		a, err := daw.Build(words)
		if err != api.OK {
			t.Fatalf("daw.Build: %d", err)
		}
		n := len(words)
		d := Dict{States: a, Counts: slices.Repeat([]uint64{9}, n), Classes: make([]int, n)}
		return d, len(payloads(d)[1])
	}
	count := 1300
	for _, size := dict(words[:count]); size < want-800; _, size = dict(words[:count]) {
		count += max(1, (want-size)/800)
	}
	// A letter of the last word takes three bytes, one more edge to the end four; and a few steps farther on a number takes one more.
	for edges := range 6 {
		l := slices.Clone(words[:count])
		for i := range edges {
			w := words[500+i]
			l = append(l, w[:100]+string([]byte{w[100] ^ 1}))
		}
		l = append(l, words[count][:10])
		slices.Sort(l)
		for range 3 {
			d, size := dict(l)
			if size == want {
				return d
			}
			l[len(l)-1] = words[count][:len(l[len(l)-1])+(want-size)/3]
		}
	}
	t.Fatal("no such states")
	return Dict{}
}

// P16.1: a record of states of 2^20 bytes, and one more.
func TestFullStates(t *testing.T) {
	words := longWords(1500)
	for _, more := range []int{0, 1} {
		d := statesFull(t, words, 1<<20+more)
		if size := len(payloads(d)[1]); size != 1<<20+more {
			t.Fatalf("%d: %d bytes", more, size)
		}
		if more > 0 {
			checkEncode(t, "one more", d, nil, api.ErrFull)
			refused(t, "one more", bytesOf(d))
			d.Counts[0] = 0
			checkEncode(t, "one more, no dictionary", d, nil, api.ErrArg)
			continue
		}
		checkEncode(t, "full", d, bytesOf(d), api.OK)
		checkDecode(t, "full", bytesOf(d), d, api.OK)
	}
}

// texts are all texts of some bytes that aren't longer than most, rising.
func texts(of []byte, most int) []string {
	all := []string{""}
	if most > 0 {
		for _, c := range of {
			for _, text := range texts(of, most-1) {
				all = append(all, string([]byte{c})+text)
			}
		}
	}
	return all
}

// sets calls f with all lists of some of the words, of which each keeps its turn.
func sets(words []string, f func([]string)) {
	for set := range 1 << len(words) {
		var l []string
		for i, w := range words {
			if set>>i&1 == 1 {
				l = append(l, w)
			}
		}
		f(l)
	}
}

// P16.1, P16.2, P16.3: every dictionary of small alphabets there and back.
func TestSmallAlphabets(t *testing.T) {
	small := []struct {
		of      string
		longest int
	}{{"a", 6}, {"ab", 2}, {"\x00\xFF", 2}, {"abc", 1}, {"\x7F\x80\xFF", 2}}
	for _, s := range small {
		of := []byte(s.of)
		sets(texts(of, s.longest)[1:], func(l []string) {
			check(t, s.of, entries(l, 1))
			check(t, s.of, entries(l, 127, 128, 1<<62, 128))
		})
	}
	sets(texts([]byte("ab"), 3)[1:], func(l []string) {
		check(t, "ab", entries(l, 5, 300, 5, 1))
	})
}

// P16.1, P16.2, P16.3: every dictionary of few words whose counts are some of these.
func TestSmallCounts(t *testing.T) {
	counts := []uint64{1, 2, 127, 128, 1 << 62}
	for _, words := range [][]string{{"a"}, {"a", "ab"}, {"ab", "b", "cb"}, {"a", "b", "ba", "bb"}} {
		all := 1
		for range words {
			all *= len(counts)
		}
		for n := range all {
			l := entries(words, 1)
			for i := range l {
				l[i].Count = counts[n%len(counts)]
				n /= len(counts)
			}
			check(t, words[0], l)
		}
	}
}

// others holds that nothing is decoded of bytes of which one is another one.
func others(t *testing.T, name string, l []api.Entry) {
	t.Helper()
	b := bytesOf(check(t, name, l))
	for i, was := range b {
		for c := range 256 {
			if b[i] = byte(c); b[i] == was {
				continue
			}
			if d, err := Decode(b); err != api.ErrForm || !same(d, Dict{}) {
				t.Fatalf("%s: %d at %d: Decode(%d) = %v, %d", name, c, i, b, show(d), err)
			}
		}
		b[i] = was
	}
}

// P16.3: of bytes of which one is another one, at each place, nothing is decoded.
func TestOneOther(t *testing.T) {
	others(t, "none", nil)
	for _, s := range []string{"ab", "\x00\x01", "\x7F\x80"} {
		sets(texts([]byte(s), 2)[1:], func(l []string) {
			others(t, s, entries(l, 1))
		})
	}
	sets([]string{"a", "b", "c", "ca"}, func(l []string) {
		others(t, "counts", entries(l, 127, 128, 1<<62))
	})
	// Records of up to 127 bytes and of more, so that one byte tells how many they are, or two.
	for _, n := range []int{40, 41} {
		word := strings.Repeat("xy", 30)[:n]
		others(t, "long", []api.Entry{{Word: "a", Count: 1}, {Word: word, Count: 128}, {Word: word + "x", Count: 1}})
	}
	for _, n := range []int{126, 127, 128} {
		var l []api.Entry
		for i := range n {
			l = append(l, api.Entry{Word: strconv.Itoa(100 + i), Count: uint64(1 + i%3)})
		}
		others(t, "many", l)
	}
}

// P16.2: nothing, bytes cut off at each place, and bytes with more behind.
func TestCut(t *testing.T) {
	refused(t, "nothing", nil)
	refused(t, "nothing", []byte{})
	lists := [][]api.Entry{nil, entries([]string{"a"}, 1), entries([]string{"ab", "b", "cb"}, 300, 7, 300), entries([]string{"\x00", "\x00\x00", "\xFF"}, 1<<62, 128)}
	for _, l := range lists {
		b := bytesOf(check(t, "whole", l))
		for i := range b {
			refused(t, "cut off", b[:i])
			refused(t, "cut off ahead", b[i+1:])
			refused(t, "one less", append(bytes.Clone(b[:i]), b[i+1:]...))
			refused(t, "one twice", append(bytes.Clone(b[:i+1]), b[i:]...))
		}
		for c := range 256 {
			refused(t, "one more", append(bytes.Clone(b), byte(c)))
			refused(t, "one more ahead", append([]byte{byte(c)}, b...))
		}
		refused(t, "twice", append(bytes.Clone(b), b...))
		refused(t, "an empty record more", append(bytes.Clone(b), record(nil)...))
		refused(t, "a record more", append(bytes.Clone(b), record([]byte("MANTELET"))...))
		refused(t, "a great record more", append(bytes.Clone(b), record(make([]byte, 1<<20))...))
		refused(t, "many records more", append(bytes.Clone(b), bytes.Repeat(record(nil), 1000)...))
	}
}

// P16.2: another word than MANTELET.
func TestOtherName(t *testing.T) {
	p := payloads(check(t, "three", entries([]string{"ab", "b", "cb"}, 300, 7, 300)))
	for _, name := range []string{"", "M", "MANTELE", "ANTELET", "mantelet", "Mantelet", "MANTELET ", "MANTELET\x00", " MANTELET", "MANTELETMANTELET", "MANTELES", "NANTELET", "TELETMAN", "\x01\x00", "\x00", strings.Repeat("M", 1<<20)} {
		refused(t, name, records([]byte(name), p[1], p[2], p[3]))
	}
	refused(t, "no name", records(p[1], p[2], p[3]))
	refused(t, "the name alone", records(p[0]))
	refused(t, "the name twice", records(p[0], p[0], p[1], p[2], p[3]))
	checkDecode(t, "just beside them", records([]byte("MANTELET"), p[1], p[2], p[3]), expectDict(entries([]string{"ab", "b", "cb"}, 300, 7, 300)), api.OK)
}

// P16.2: fewer records, records in another turn, and some of them twice.
func TestOtherRecords(t *testing.T) {
	for _, l := range [][]api.Entry{nil, entries([]string{"a"}, 1), entries([]string{"a", "b"}, 1, 2), entries([]string{"ab", "b", "cb"}, 300, 7, 300)} {
		p := payloads(check(t, "whole", l))
		whole := records(p...)
		for n := range 6 {
			turns := 1
			for range n {
				turns *= 4
			}
			for k := range turns {
				var b []byte
				for range n {
					b = append(b, record(p[k%4])...)
					k /= 4
				}
				if !bytes.Equal(b, whole) {
					refused(t, "other records", b)
				}
			}
		}
	}
}

// P16.2: sums that aren't those of their bytes, and records of which less is there than they tell.
func TestWrongSums(t *testing.T) {
	p := payloads(check(t, "two", entries([]string{"a", "b"}, 1, 2)))
	for wrong := range p {
		for _, turn := range []func(b []byte) []byte{
			func(b []byte) []byte { b[len(b)-1]++; return b },
			func(b []byte) []byte { b[len(b)-4]--; return b },
			func(b []byte) []byte { slices.Reverse(b[len(b)-4:]); return b },
			func(b []byte) []byte { clear(b[len(b)-4:]); return b },
			func(b []byte) []byte { return b[:len(b)-4] },
			func(b []byte) []byte { return b[:len(b)-1] },
			func(b []byte) []byte { return append(b, 0) },
			func(b []byte) []byte { b[0]++; return b },
			func(b []byte) []byte { b[0]--; return b },
			func(b []byte) []byte { return append([]byte{b[0] | 128, 0}, b[1:]...) },
			func(b []byte) []byte { return append([]byte{128, 128, 64}, b[1:]...) },
			func(b []byte) []byte { return append(bytes.Repeat([]byte{128}, 10), b[1:]...) },
			func(b []byte) []byte { return nil },
		} {
			var b []byte
			for i := range p {
				r := record(p[i])
				if i == wrong {
					r = turn(r)
				}
				b = append(b, r...)
			}
			refused(t, strconv.Itoa(wrong), b)
		}
	}
}

// ten are the bytes of a number of 64 bits, all of them 1.
const ten = "\xFF\xFF\xFF\xFF\xFF\xFF\xFF\xFF\xFF\x01"

// P16.2: bad numbers, bytes left over and such as aren't there, in each of the records that have numbers.
func TestOtherPayloads(t *testing.T) {
	states, counts, classes := "\x03\x01\x02b\x01\x06a\x01b\x02c\x01", "\x03\xAC\x02\x07\xAC\x02", "\x00\x01\x00"
	try := func(states, counts, classes string) (Dict, api.Errno) {
		b := records([]byte("MANTELET"), []byte(states), []byte(counts), []byte(classes))
		d, err := Decode(b)
		if err != api.OK {
			refused(t, "others", b)
		}
		return d, err
	}
	want := check(t, "three", entries([]string{"ab", "b", "cb"}, 300, 7, 300))
	if d, err := try(states, counts, classes); err != api.OK || !same(d, want) {
		t.Fatalf("%v, %d", d, err)
	}
	for _, s := range []string{
		"", "\x03", "\x03\x01", states[:3], states[:4], states[:5], states[:len(states)-1],
		states + "\x00", states + "\x01", states + "\x01a", states + states, "\x00" + states, "\x00", "\x01", "\x01\x00", "\x01\x01",
		"\x02" + states[1:], "\x04" + states[1:], "\x7F" + states[1:], "\x80" + states[1:], "\x83\x00" + states[1:], ten + states[1:], "\xFF\xFF\xFF\xFF\xFF\xFF\xFF\xFF\xFF\x02" + states[1:],
		"\x80\x80\x40" + states[1:], "\x83\x80\x80\x80\x80\x80\x80\x80\x80\x01" + states[1:], "\x83\x80\x80\x80\x10" + states[1:],
		"\x03\x81\x00" + states[2:], "\x03\x00" + states[2:], "\x03" + ten + states[2:], "\x03\x81\x80\x80\x80\x80\x80\x80\x80\x80\x01" + states[2:], "\x03\x80" + states[2:],
		"\x03\x01\x03b\x01" + states[5:], "\x03\x01\x00b\x01" + states[5:], "\x03\x01\x04b\x01" + states[5:], "\x03\x01\x82\x00b\x01" + states[5:],
		"\x03\x01\x02b\x00" + states[5:], "\x03\x01\x02b\x02" + states[5:], "\x03\x01\x02b\x81\x00" + states[5:], "\x03\x01\x02b\x80" + states[5:],
		"\x03\x01\x02b" + ten + states[5:], "\x03\x01\x02b\x81\x80\x80\x80\x80\x80\x80\x80\x80\x01" + states[5:], "\x03\x01\x02b\x81\x80\x80\x80\x10" + states[5:],
		states[:5] + "\x04a\x01b\x02", states[:5] + "\x07a\x01b\x02c\x01", states[:5] + "\x08a\x01b\x02c\x01", states[:5] + "\x06a\x01a\x02c\x01", states[:5] + "\x06b\x01a\x02c\x01",
		states[:5] + "\x06a\x01b\x03c\x01", states[:5] + "\x06a\x01b\x00c\x01",
	} {
		if d, err := try(s, counts, classes); err != api.ErrForm {
			t.Errorf("%q: %v, %d", s, d, err)
		}
	}
	// Just beside them, edges that lead elsewhere.
	for s, words := range map[string][]string{"\x06a\x01b\x02c\x02": {"ab", "b", "c"}, "\x06a\x02b\x01c\x02": {"a", "bb", "c"}} {
		if d, err := try(states[:5]+s, counts, classes); err != api.OK || !same(d, expectDict(entries(words, 300, 7, 300))) {
			t.Errorf("%q: %v, %d", s, d, err)
		}
	}
	for _, c := range []string{
		"", "\x03", counts[:1], counts[:2], counts[:3], counts[:4], counts[:5], counts + "\x00", counts + "\x07", counts + counts, "\x00" + counts, "\x00",
		"\x02" + counts[1:], "\x02\xAC\x02\x07", "\x04" + counts[1:], "\x04" + counts[1:] + "\x07", "\x83\x00" + counts[1:], "\x80" + counts[1:], ten + counts[1:], "\x80\x80\x40" + counts[1:],
		"\x83\x80\x80\x80\x80\x80\x80\x80\x80\x01" + counts[1:], "\x83\x80\x80\x80\x10" + counts[1:],
		"\x03\xAC\x02\x00\xAC\x02", "\x03\xAC\x02\x87\x00\xAC\x02", "\x03\xAC\x82\x00\x07\xAC\x02", "\x03\xAC\x02\x07\xAC\x82", "\x03\xAC\x02\x07\xAC\x80\x00", "\x03\x00\x00\x00",
		"\x03" + ten + "\x07" + ten, "\x03\xAC\x02\x07\xFF\xFF\xFF\xFF\xFF\xFF\xFF\xFF\xFF\x02", "\x03\x81\x80\x80\x80\x80\x80\x80\x80\x40\x07\x01", "\x03\x07\xAC\x02\x07", "\x03\xAC\x02\x07\xAD\x02", "\x03\x07\x07\x07",
	} {
		if d, err := try(states, c, classes); err != api.ErrForm {
			t.Errorf("%q: %v, %d", c, d, err)
		}
	}
	for _, c := range []string{"", "\x00", "\x00\x01", "\x01\x00", "\x00\x01\x00\x00", "\x03\x00\x01\x00", "\x00\x01\x00\x01", "\x00\x00\x00", "\x01\x01\x01", "\x01\x00\x01", "\x00\x02\x00", "\x00\x80\x00", "\x00\xFF\x00", "\x00\x01\x01", "\x00\x81\x00", "\x00\x01\x02"} {
		if d, err := try(states, counts, c); err != api.ErrForm {
			t.Errorf("%q: %v, %d", c, d, err)
		}
	}
}

// P16.2: edges, behind which states they lead: to each one, to itself, to later ones and none.
func TestEdges(t *testing.T) {
	for n := range uint64(300) {
		states := []byte{3, 1, 2, 'b', 1, 4, 'a', 1, 'b'}
		b := records([]byte("MANTELET"), binary.AppendUvarint(states, n), []byte{2, 1, 1}, []byte{0, 0})
		switch n {
		case 1, 2:
			want := Dict{States: []api.State{state(true, ""), state(false, "b", 0), state(false, "ab", 1, 2-int(n))}, Counts: []uint64{1, 1}, Classes: []int{0, 0}}
			checkDecode(t, "below", b, want, api.OK)
		default:
			refused(t, strconv.FormatUint(n, 10), b)
		}
	}
	for _, n := range []uint64{1<<31 - 1, 1 << 31, 1<<32 - 2, 1<<32 - 1, 1 << 32, 1<<32 + 1, 1<<32 + 2, 1<<63 - 1, 1 << 63, 1<<63 + 1, 1<<63 + 2, 1<<64 - 2, 1<<64 - 1} {
		states := []byte{3, 1, 2, 'b', 1, 4, 'a', 1, 'b'}
		refused(t, strconv.FormatUint(n, 10), records([]byte("MANTELET"), binary.AppendUvarint(states, n), []byte{2, 1, 1}, []byte{0, 0}))
	}
}

// all calls f with all that so many bytes can be, each of them one of some.
func all(of []byte, n int, f func([]byte)) {
	b := make([]byte, n)
	var set func(i int)
	set = func(i int) {
		if i == n {
			f(b)
			return
		}
		for _, c := range of {
			b[i] = c
			set(i + 1)
		}
	}
	set(0)
}

// P16.2: records with all payloads of a few bytes, of which those of dictionaries alone are decoded.
func TestAllPayloads(t *testing.T) {
	of := []byte{0, 1, 2, 3, 4}
	known := map[string]Dict{}
	learn := func(l []api.Entry) {
		d := expectDict(l)
		known[string(bytesOf(d))] = d
	}
	words := texts(of, 3)[1:]
	learn(nil)
	for i, w := range words {
		learn(entries([]string{w}, 1))
		for _, other := range words[i+1:] {
			learn(entries([]string{w, other}, 1))
		}
	}
	decoded := 0
	try := func(b []byte) {
		t.Helper()
		d, err := Decode(b)
		want, is := known[string(b)]
		if is != (err == api.OK) || !is && err != api.ErrForm || !same(d, want) {
			t.Fatalf("Decode(%d) = %v, %d", b, d, err)
		}
		if is {
			decoded++
		}
	}
	name := record([]byte("MANTELET"))
	rest := [][]byte{records([]byte{0}, nil), records([]byte{1, 1}, []byte{0}), records([]byte{2, 1, 1}, []byte{0, 0})}
	for n := range 8 {
		all(of, n, func(states []byte) {
			b := append(bytes.Clone(name), record(states)...)
			for _, r := range rest {
				try(append(bytes.Clone(b), r...))
			}
		})
	}
	// None, 5 of a byte, 10 of two of these.
	if decoded != 16 {
		t.Errorf("%d were decoded", decoded)
	}
	all([]byte{1, 2, 3}, 8, func(states []byte) {
		b := append(bytes.Clone(name), record(states)...)
		for _, r := range rest {
			try(append(bytes.Clone(b), r...))
		}
	})
	// 9 of two bytes, and 9 of these with their begins.
	if decoded != 34 {
		t.Errorf("%d were decoded", decoded)
	}
}

// P16.2: of two words all counts and classes of a few bytes, of which those that fit alone are decoded.
func TestAllCounts(t *testing.T) {
	var classes [][]byte
	for n := range 4 {
		all([]byte{0, 1, 2}, n, func(c []byte) { classes = append(classes, bytes.Clone(c)) })
	}
	ahead := records([]byte("MANTELET"), []byte{2, 1, 4, 'a', 1, 'b', 1})
	decoded := 0
	try := func(b []byte) {
		t.Helper()
		d, err := Decode(b)
		if err != api.OK {
			if err != api.ErrForm || !same(d, Dict{}) {
				t.Fatalf("Decode(%d) = %v, %d", b, d, err)
			}
			return
		}
		decoded++
		if len(d.Counts) != 2 {
			t.Fatalf("Decode(%d) = %v", b, d)
		}
		l := entries([]string{"a", "b"}, d.Counts...)
		if run.May(l) != api.OK || !same(d, expectDict(l)) || !bytes.Equal(bytesOf(d), b) {
			t.Fatalf("Decode(%d) = %v", b, d)
		}
	}
	for n := range 6 {
		all([]byte{0, 1, 2, 127, 128, 255}, n, func(counts []byte) {
			b := append(bytes.Clone(ahead), record(counts)...)
			for _, c := range classes {
				try(append(bytes.Clone(b), record(c)...))
			}
		})
	}
	// Of one byte there are 3 counts, of two 6, of three 12: 3*3 of two bytes together, 2*3*6 of three, and 2*3*12 and 6*6 of four.
	if decoded != 9+36+72+36 {
		t.Errorf("%d were decoded", decoded)
	}
}

// R3: what is handed in stays as it is, also behind it in its memory, and what is told is the caller's own.
func TestSharesNothing(t *testing.T) {
	room := entries([]string{"a", "ab", "b", "z"}, 5, 9, 5, 1)
	l := room[:3]
	d, err := Make(l)
	want := expectDict(entries([]string{"a", "ab", "b"}, 5, 9, 5))
	if err != api.OK || !same(d, want) {
		t.Fatalf("%v, %d", d, err)
	}
	clear(l)
	if !same(d, want) || room[3] != (api.Entry{Word: "z", Count: 1}) {
		t.Errorf("what was handed in, turned: %v, %v", d, room)
	}
	alone(t, "made", d)

	edges := []api.Edge{{Byte: 'b', To: 0}, {Byte: 'x', To: 7}}
	states := []api.State{state(true, ""), {Final: true, Edges: edges[:1]}, state(false, "ab", 1, 0), state(true, "x", 9)}
	counts := []uint64{5, 9, 5, 77}
	classes := []int{1, 0, 1, 77}
	part := Dict{States: states[:3], Counts: counts[:3], Classes: classes[:3]}
	b, err := Encode(part)
	if err != api.OK || !bytes.Equal(b, bytesOf(want)) || !same(part, want) {
		t.Fatalf("%d, %d", b, err)
	}
	if edges[1] != (api.Edge{Byte: 'x', To: 7}) || !sameStates(states[3:], []api.State{state(true, "x", 9)}) || counts[3] != 77 || classes[3] != 77 {
		t.Errorf("turned to %v, %v, %d, %d", edges, states, counts, classes)
	}
	clear(b)
	_ = append(b, 1, 2, 3)
	checkEncode(t, "again", part, bytesOf(want), api.OK)

	whole := append(bytesOf(want), 1, 2, 3)
	b = whole[:len(whole)-3]
	d, err = Decode(b)
	if err != api.OK || !same(d, want) || !bytes.Equal(whole, append(bytesOf(want), 1, 2, 3)) {
		t.Fatalf("%v, %d, %d", d, err, whole)
	}
	clear(whole)
	if !same(d, want) {
		t.Errorf("what was handed in, turned: %v", d)
	}
	alone(t, "decoded", d)
}

// alone is that no two lists of a dictionary share their memory, by what stands in them nor by the room behind it.
func alone(t *testing.T, name string, d Dict) {
	t.Helper()
	for i := range d.States {
		was := copied(d)
		e := d.States[i].Edges
		for k := range e {
			e[k] = api.Edge{Byte: 'q', To: -7}
		}
		_ = append(e, slices.Repeat([]api.Edge{{Byte: 'r', To: -8}}, 300)[:cap(e)-len(e)]...)
		was.States[i].Edges = slices.Clone(e)
		if !same(d, was) {
			t.Fatalf("%s: the edges of %d turned %v to %v", name, i, was, d)
		}
	}
}

// R4: nothing is kept from call to call.
func TestKeepsNothing(t *testing.T) {
	l := entries([]string{"ab", "b", "cb"}, 300, 7, 300)
	r := rand.New(rand.NewSource(1602))
	for range 20 {
		check(t, "others", anyEntries(r))
		checkMake(t, "others", entries([]string{"b", "a"}, 1), Dict{}, api.ErrOrder)
		isNone(t, "others", Dict{States: ladder(63), Counts: []uint64{1}, Classes: []int{0}})
		refused(t, "others", bytesOf(expectDict(l))[:30])
		written(t, "again", l, []byte{3, 1, 2, 'b', 1, 6, 'a', 1, 'b', 2, 'c', 1}, []byte{3, 172, 2, 7, 172, 2}, []byte{0, 1, 0})
	}
}

// anyEntries are entries by chance, that may be.
func anyEntries(r *rand.Rand) []api.Entry {
	of := []string{"a", "ab", "abc", "\x00\x7F\x80\xFF", "abcdefghijklmnopqrstuvwxyz"}[r.Intn(5)]
	words := make([]string, r.Intn(40))
	for i := range words {
		w := make([]byte, 1+r.Intn(7))
		for k := range w {
			w[k] = of[r.Intn(len(of))]
		}
		words[i] = string(w)
	}
	slices.Sort(words)
	l := entries(slices.Compact(words), 1)
	for i := range l {
		l[i].Count = 1 + r.Uint64()>>r.Intn(63)%(1<<62)
	}
	return l
}

// expectMay tells of states of which daw tells the words whether there are entries whose dictionary d is.
func expectMay(d Dict) bool {
	words, err := daw.Words(d.States, len(d.Counts))
	if err != api.OK || len(words) != len(d.Counts) {
		return false
	}
	l := make([]api.Entry, len(words))
	for i, w := range words {
		l[i] = api.Entry{Word: w, Count: d.Counts[i]}
	}
	return run.May(l) == api.OK && same(d, expectDict(l))
}

// turn turns a dictionary at one place by chance.
func turn(r *rand.Rand, d *Dict) {
	s := &d.States[r.Intn(len(d.States))]
	switch k := r.Intn(8); {
	case k == 0:
		s.Final = !s.Final
	case k == 1 && len(s.Edges) > 0:
		s.Edges[r.Intn(len(s.Edges))].To = r.Intn(len(d.States)+2) - 1
	case k == 2 && len(s.Edges) > 0:
		s.Edges[r.Intn(len(s.Edges))].Byte++
	case k == 3 && len(s.Edges) > 0:
		s.Edges = s.Edges[1:]
	case k == 4 && len(d.Counts) > 0:
		d.Counts[r.Intn(len(d.Counts))] = uint64(r.Intn(3))
	case k == 5 && len(d.Classes) > 0:
		d.Classes[r.Intn(len(d.Classes))] = r.Intn(4)
	case k == 6 && len(d.Counts) > 0:
		d.Counts = d.Counts[1:]
		d.Classes = expectClasses(d.Counts)
	case k == 7 && len(d.Counts) > 0:
		d.Counts[r.Intn(len(d.Counts))] = uint64(1 + r.Intn(300))
		d.Classes = expectClasses(d.Counts)
	}
}

// P16.1, P16.2, P16.3: entries by chance; and their dictionaries, turned at some places.
func TestAny(t *testing.T) {
	r := rand.New(rand.NewSource(1603))
	may := map[bool]int{}
	for range 3000 {
		d := check(t, "any", anyEntries(r))
		for range 1 + r.Intn(3) {
			turn(r, &d)
		}
		is := expectMay(d)
		may[is]++
		if !is {
			isNone(t, "turned", d)
			continue
		}
		checkEncode(t, "turned", d, bytesOf(d), api.OK)
		checkDecode(t, "turned", bytesOf(d), d, api.OK)
	}
	if may[true] < 300 || may[false] < 300 {
		t.Errorf("%v", may)
	}
}

// P1: bytes that tell of far more than there is, or are as deep as they can be.
func TestDeep(t *testing.T) {
	name := []byte("MANTELET")
	deep := binary.AppendUvarint(nil, 349000)
	deep = append(append(deep, 1), bytes.Repeat([]byte{2, 'a', 1}, 348999)...)
	refused(t, "deep", records(name, deep, []byte{1, 1}, []byte{0}))
	ends := binary.AppendUvarint(nil, 349000)
	ends = append(append(ends, 1), bytes.Repeat([]byte{3, 'a', 1}, 348999)...)
	refused(t, "deep, with ends", records(name, ends, []byte{1, 1}, []byte{0}))
	ones := append(binary.AppendUvarint(nil, 1<<20-3), bytes.Repeat([]byte{1}, 1<<20-3)...)
	zeros := append(binary.AppendUvarint(nil, 1<<20-3), make([]byte, 1<<20-3)...)
	refused(t, "many states", records(name, ones, ones, zeros))
	refused(t, "many states", records(name, zeros, ones, make([]byte, 1<<20)))
	wide := binary.AppendUvarint([]byte{2, 1}, 2*500000)
	wide = append(wide, bytes.Repeat([]byte{'a', 1}, 500000)...)
	refused(t, "many edges", records(name, wide, ones, zeros))
	refused(t, "many counts", records(name, []byte{1, 0}, ones, zeros[3:]))
	refused(t, "many classes", records(name, []byte{1, 0}, []byte{0}, make([]byte, 1<<20)))
	for _, n := range []uint64{1 << 20, 1 << 31, 1 << 32, 1 << 62, 1<<63 - 1, 1 << 63, 1<<64 - 1} {
		far := binary.AppendUvarint(nil, n)
		refused(t, "far more states", records(name, far, []byte{0}, nil))
		refused(t, "far more states", records(name, append(far, 1, 2, 'a', 1), []byte{1, 1}, []byte{0}))
		refused(t, "far more edges", records(name, append([]byte{1}, far...), []byte{0}, nil))
		refused(t, "far more edges", records(name, append(append([]byte{2, 1}, far...), 'a', 1), []byte{1, 1}, []byte{0}))
		refused(t, "far more counts", records(name, []byte{1, 0}, far, nil))
		refused(t, "far more counts", records(name, []byte{2, 1, 2, 'a', 1}, append(far, 1), []byte{0}))
		refused(t, "far more bytes", append(records(name, []byte{1, 0}, []byte{0}), far...))
	}
	refused(t, "a great file", make([]byte, 1<<25))
	refused(t, "a great file", bytes.Repeat([]byte{255}, 1<<25))
	refused(t, "many records", bytes.Repeat(record(name), 1<<20))
}

// P1, P16.1, P16.2: many words, as entries and as a dictionary.
func TestMany(t *testing.T) {
	var l []api.Entry
	for i := range 300000 {
		l = append(l, api.Entry{Word: strconv.Itoa(1000000 + i), Count: uint64(1 + i*i%400)})
	}
	d, err := Make(l)
	if err != api.OK || len(d.States) != 8 || len(d.Counts) != len(l) || !slices.Equal(d.Classes, expectClasses(d.Counts)) {
		t.Fatalf("%v, %d", show(d), err)
	}
	checkEncode(t, "many", d, bytesOf(d), api.OK)
	checkDecode(t, "many", bytesOf(d), d, api.OK)
	d.Classes[299999]++
	checkEncode(t, "many", d, nil, api.ErrArg)
	refused(t, "many", bytesOf(d))
}

// P1, P16.1, P16.3: any entries, each told by a word and a count.
func FuzzMake(f *testing.F) {
	f.Add("ab b cb", uint64(300), uint64(7))
	f.Add("a ab abc b", uint64(1), uint64(1<<62))
	f.Add("b a", uint64(0), uint64(1<<63))
	f.Fuzz(func(t *testing.T, text string, n, k uint64) {
		words := strings.Split(text[:min(len(text), 60)], " ")
		l := entries(words, n, k, 5)
		if err := run.May(l); err != api.OK {
			checkMake(t, "any", l, Dict{}, err)
		}
		slices.Sort(words)
		l = entries(slices.Compact(words), n, k, 5)
		if err := run.May(l); err != api.OK {
			checkMake(t, "any, sorted", l, Dict{}, err)
			return
		}
		check(t, "any", l)
	})
}

// P1, P16.2: any bytes.
func FuzzDecode(f *testing.F) {
	for _, l := range [][]api.Entry{nil, entries([]string{"a"}, 1), entries([]string{"ab", "b", "cb"}, 300, 7, 300)} {
		f.Add(bytesOf(expectDict(l)))
	}
	f.Fuzz(func(t *testing.T, b []byte) {
		checkAny(t, b)
	})
}

// P1, P16.2: any payloads, in records whose sums are right.
func FuzzPayloads(f *testing.F) {
	for _, l := range [][]api.Entry{nil, entries([]string{"a"}, 1), entries([]string{"ab", "b", "cb"}, 300, 7, 300), entries([]string{"a", "ab", "abc", "b"}, 5, 9, 5, 1)} {
		p := payloads(expectDict(l))
		f.Add(p[1], p[2], p[3])
	}
	f.Fuzz(func(t *testing.T, states, counts, classes []byte) {
		checkAny(t, records([]byte("MANTELET"), states[:min(len(states), 60)], counts[:min(len(counts), 60)], classes[:min(len(classes), 60)]))
	})
}

// checkAny is that bytes are either refused, or those of a dictionary.
func checkAny(t *testing.T, b []byte) {
	t.Helper()
	d, err := Decode(b)
	if err != api.OK {
		refused(t, "any", b)
		return
	}
	if !expectMay(d) || !bytes.Equal(bytesOf(d), b) {
		t.Fatalf("Decode(%d) = %v", b, show(d))
	}
	checkDecode(t, "any", b, d, api.OK)
	checkEncode(t, "any", d, b, api.OK)
}
