package reader

import (
	"bytes"
	"math/rand"
	"slices"
	"strconv"
	"strings"
	"testing"

	"mantelet/api"
	"mantelet/frame"
	"mantelet/run"
)

const most = uint64(1) << 62

// example is the run of a 1, in blocks of one, byte by byte: payloads 1; 1, 0, 1, a, 1; and 0, 1.
func example() []byte {
	return join([]byte{1}, []byte{1, 0, 1, 'a', 1}, []byte{0, 1})
}

// join are payloads as records, one behind the other.
func join(payloads ...[]byte) []byte {
	var b []byte
	for _, payload := range payloads {
		b, _ = frame.Put(b, payload)
	}
	return b
}

func mustEncode(t *testing.T, l []api.Entry, size int) []byte {
	t.Helper()
	b, err := run.Encode(l, size)
	if err != api.OK {
		t.Fatalf("run.Encode: %d", err)
	}
	return b
}

func mustOpen(t *testing.T, b []byte) *Reader {
	t.Helper()
	r, err := Open(b)
	if r == nil || err != api.OK {
		t.Fatalf("Open(%v) = %v, %d", short(b), r, err)
	}
	return r
}

func short[T any](l []T) []T {
	return l[:min(len(l), 40)]
}

// rising are n entries whose words rise.
func rising(n int) []api.Entry {
	var l []api.Entry
	for i := range n {
		l = append(l, api.Entry{Word: "w" + strconv.Itoa(100000+i*3), Count: uint64(i + 1)})
	}
	return l
}

// samples are lists of entries, of the edges that the chapters name.
func samples() [][]api.Entry {
	long := strings.Repeat("\xFF", 254)
	return [][]api.Entry{
		nil,
		{{Word: "a", Count: 1}},
		{{Word: "a", Count: most}},
		{{Word: "\x00", Count: 1}, {Word: "\x00\x00", Count: most}},
		{{Word: "a", Count: 1}, {Word: "ab", Count: 2}, {Word: "b", Count: 3}},
		{{Word: "a", Count: 7}, {Word: "b", Count: 7}, {Word: "c", Count: 7}, {Word: "d", Count: 7}},
		{{Word: long, Count: 300}, {Word: long + "a", Count: most - 1}, {Word: long + "\xFF", Count: 1}},
		{{Word: "don't", Count: 2}, {Word: "zoo", Count: 1 << 32}, {Word: "é", Count: 127}, {Word: "日本", Count: 128}},
		rising(254), rising(255), rising(256), rising(511), rising(1000),
	}
}

// checkStands holds a reader against those entries that should be left, asked in each turn and more than once.
func checkStands(t *testing.T, name string, r *Reader, left []api.Entry) {
	t.Helper()
	var want api.Entry
	if len(left) > 0 {
		want = left[0]
	}
	for range 3 {
		if n := r.Left(); n != len(left) {
			t.Errorf("%s: Left() = %d, want %d", name, n, len(left))
		}
		if e, ok := r.Peek(); e != want || ok != (len(left) > 0) {
			t.Errorf("%s: Peek() = %v, %v, with %d left; want %v", name, e, ok, len(left), want)
		}
	}
}

// checkNext is that the first of those left is read, and that the reader stands behind it.
func checkNext(t *testing.T, name string, r *Reader, left []api.Entry) []api.Entry {
	t.Helper()
	if len(left) == 0 {
		if e, ok := r.Next(); ok || e != (api.Entry{}) {
			t.Errorf("%s: behind the last one Next() = %v, %v", name, e, ok)
		}
	} else {
		if e, ok := r.Next(); e != left[0] || !ok {
			t.Errorf("%s: Next() = %v, %v, want %v", name, e, ok, left[0])
		}
		left = left[1:]
	}
	checkStands(t, name, r, left)
	return left
}

// checkAll reads all of a reader, and thrice behind its end.
func checkAll(t *testing.T, name string, r *Reader, l []api.Entry) {
	t.Helper()
	checkStands(t, name, r, l)
	for left := l; len(left) > 0 && !t.Failed(); {
		left = checkNext(t, name, r, left)
	}
	for range 3 {
		checkNext(t, name, r, nil)
	}
}

// readAll are the entries that Next tells alone; most of them, if it doesn't end.
func readAll(r *Reader, most int) []api.Entry {
	var l []api.Entry
	for range most {
		e, ok := r.Next()
		if !ok {
			break
		}
		l = append(l, e)
	}
	return l
}

// refused is that bytes are no run: run.Decode's error, and no reader.
func refused(t *testing.T, name string, b []byte) {
	t.Helper()
	was := bytes.Clone(b)
	if _, err := run.Decode(b); err != api.ErrForm {
		t.Errorf("%s: run.Decode(%v): %d", name, short(b), err)
	}
	if r, err := Open(b); r != nil || err != api.ErrForm {
		t.Errorf("%s: Open(%v) = %v, %d; want none, ErrForm", name, short(b), r, err)
	}
	if !bytes.Equal(b, was) {
		t.Errorf("%s: Open turned %v", name, short(was))
	}
}

// P10.1: the chapter's example.
func TestExample(t *testing.T) {
	r := mustOpen(t, example())
	a := api.Entry{Word: "a", Count: 1}
	if e, ok := r.Peek(); e != a || !ok {
		t.Errorf("Peek() = %v, %v", e, ok)
	}
	if n := r.Left(); n != 1 {
		t.Errorf("Left() = %d", n)
	}
	if e, ok := r.Next(); e != a || !ok {
		t.Errorf("Next() = %v, %v", e, ok)
	}
	if e, ok := r.Peek(); e != (api.Entry{}) || ok {
		t.Errorf("behind it Peek() = %v, %v", e, ok)
	}
	if e, ok := r.Next(); e != (api.Entry{}) || ok {
		t.Errorf("behind it Next() = %v, %v", e, ok)
	}
	if n := r.Left(); n != 0 {
		t.Errorf("behind it Left() = %d", n)
	}
}

// P10.1, P10.2: runs of no entries, of one, of one block and of many, each asked at every place.
func TestAllPlaces(t *testing.T) {
	for i, l := range samples() {
		for _, size := range []int{1, 2, 3, 100, 254, 255} {
			b := mustEncode(t, l, size)
			was := bytes.Clone(b)
			checkAll(t, strconv.Itoa(i)+" in blocks of "+strconv.Itoa(size), mustOpen(t, b), l)
			if !bytes.Equal(b, was) {
				t.Errorf("%d in blocks of %d: turned %v", i, size, short(was))
			}
		}
	}
}

// P10.1: Next alone, and Left alone beside it, without a Peek.
func TestNextAlone(t *testing.T) {
	for i, l := range samples() {
		b := mustEncode(t, l, 7)
		if got := readAll(mustOpen(t, b), len(l)+9); !slices.Equal(got, l) {
			t.Errorf("%d: read %v, want %v", i, short(got), short(l))
		}
		r := mustOpen(t, b)
		for left := len(l); left > 0; left-- {
			if n := r.Left(); n != left {
				t.Fatalf("%d: Left() = %d, want %d", i, n, left)
			}
			r.Next()
		}
		if n := r.Left(); n != 0 {
			t.Errorf("%d: at the end Left() = %d", i, n)
		}
	}
}

// P10.2: peeking, however often and wherever, changes nothing that is read.
func TestPeekChangesNothing(t *testing.T) {
	l := rising(20)
	b := mustEncode(t, l, 6)
	for at := range len(l) + 1 {
		for times := range 30 {
			r := mustOpen(t, b)
			readAll(r, at)
			for range times {
				r.Peek()
			}
			if n := r.Left(); n != len(l)-at {
				t.Errorf("behind %d, and %d peeks: Left() = %d", at, times, n)
			}
			if got := readAll(r, len(l)+9); !slices.Equal(got, l[at:]) {
				t.Errorf("behind %d, and %d peeks: %v", at, times, got)
			}
		}
	}
}

// P10.1: no bytes, and bytes that are no run.
func TestRefused(t *testing.T) {
	a, b, end := []byte{1, 0, 1, 'a', 1}, []byte{1, 0, 1, 'b', 1}, []byte{0, 2}
	refused(t, "nil", nil)
	for name, l := range map[string][]byte{
		"no bytes":              {},
		"one byte":              {0},
		"the end alone":         join([]byte{0, 0}),
		"no end":                join([]byte{1}, a, b),
		"no size":               join(a, b, end),
		"a size of 0":           join([]byte{0}, a, b, end),
		"a size of 256":         join([]byte{128, 2}, a, b, end),
		"a block too few":       join([]byte{1}, a, end),
		"words that fall":       join([]byte{1}, b, a, end),
		"the same word":         join([]byte{1}, a, a, end),
		"a word that is empty":  join([]byte{1}, []byte{1, 0, 0, 1}, []byte{0, 1}),
		"a count of 0":          join([]byte{1}, []byte{1, 0, 1, 'a', 0}, []byte{0, 1}),
		"blocks that are short": join([]byte{2}, a, b, end),
		"a record behind":       join([]byte{1}, a, b, end, nil),
		"two runs":              join([]byte{1}, a, b, end, []byte{1}, a, b, end),
	} {
		refused(t, name, l)
	}
	mustOpen(t, join([]byte{1}, a, b, end))
	mustOpen(t, join([]byte{1}, []byte{0, 0}))
}

// P10.1: a run that is cut, that has bytes behind it, and that has another byte, at each place.
func TestTurnedRuns(t *testing.T) {
	for i, l := range samples()[:6] {
		for _, size := range []int{1, 2, 255} {
			b := mustEncode(t, l, size)
			name := strconv.Itoa(i) + " in blocks of " + strconv.Itoa(size)
			for at := range b {
				refused(t, name+", cut", b[:at])
				if at > 0 {
					refused(t, name+", its begin cut", b[at:])
				}
				for other := range 256 {
					turned := bytes.Clone(b)
					turned[at] = byte(other)
					if byte(other) != b[at] {
						refused(t, name+", with another byte", turned)
					}
				}
			}
			for other := range 256 {
				refused(t, name+", with a byte behind", append(bytes.Clone(b), byte(other)))
				refused(t, name+", with a byte ahead", append([]byte{byte(other)}, b...))
			}
		}
	}
}

// P10.1: of a Reader that is nil, none, false, 0; also of one that wasn't opened.
func TestNil(t *testing.T) {
	var none *Reader
	for _, r := range []*Reader{none, {}} {
		for range 3 {
			checkNext(t, "not opened", r, nil)
		}
	}
	if n := none.Left(); n != 0 {
		t.Errorf("nil: Left() = %d", n)
	}
	if e, ok := none.Peek(); e != (api.Entry{}) || ok {
		t.Errorf("nil: Peek() = %v, %v", e, ok)
	}
	if e, ok := none.Next(); e != (api.Entry{}) || ok {
		t.Errorf("nil: Next() = %v, %v", e, ok)
	}
	failed, err := Open([]byte{1})
	if err != api.ErrForm {
		t.Errorf("Open: %d", err)
	}
	checkNext(t, "what Open tells with an error", failed, nil)
}

// R4: two readers of one run, and one of another, read in turns; one that is read to its end leaves the next one whole.
func TestReadersInTurns(t *testing.T) {
	l, m := rising(9), rising(300)[200:]
	b := mustEncode(t, l, 4)
	one, two, other := mustOpen(t, b), mustOpen(t, b), mustOpen(t, mustEncode(t, m, 4))
	left := [3][]api.Entry{l, l, m}
	readers := [3]*Reader{one, two, other}
	for _, who := range []int{0, 1, 2, 0, 0, 0, 1, 2, 2, 1, 0, 0, 0, 0, 0, 0, 0, 1, 2, 1, 1, 1, 1, 1, 1, 1, 2} {
		left[who] = checkNext(t, "in turns", readers[who], left[who])
		for i, r := range readers {
			checkStands(t, "beside", r, left[i])
		}
		refused(t, "in between", b[:len(b)-1])
	}
	checkAll(t, "anew", mustOpen(t, b), l)
}

// R3: what was handed in, turned afterwards, turns nothing that is told.
func TestBytesTurnedAfterwards(t *testing.T) {
	for i, l := range samples() {
		for _, at := range []int{0, 1, len(l) / 2, len(l)} {
			b := mustEncode(t, l, 3)
			r := mustOpen(t, b)
			readAll(r, at)
			for k := range b {
				b[k] ^= 0x55
			}
			if got := readAll(r, len(l)+9); !slices.Equal(got, l[min(at, len(l)):]) {
				t.Errorf("%d: behind %d: %v, want %v", i, at, short(got), short(l))
			}
		}
	}
	b := example()
	r := mustOpen(t, b)
	e, _ := r.Peek()
	clear(b)
	if again, ok := r.Next(); again != e || !ok || e != (api.Entry{Word: "a", Count: 1}) {
		t.Errorf("peeked %v, read %v, %v", e, again, ok)
	}
}

// P1: many entries are read without work that is done anew for each one.
func TestMany(t *testing.T) {
	l := rising(200000)
	b := mustEncode(t, l, 255)
	if got := readAll(mustOpen(t, b), len(l)+9); !slices.Equal(got, l) {
		t.Errorf("%d read of %d", len(got), len(l))
	}
}

// P10.1, P10.2: calls in any turn, of readers of any entries.
func TestAny(t *testing.T) {
	rnd := rand.New(rand.NewSource(1010))
	for range 500 {
		l := rising(rnd.Intn(30))
		b := mustEncode(t, l, 1+rnd.Intn(9))
		calls := make([]byte, rnd.Intn(80))
		for i := range calls {
			calls[i] = byte(rnd.Intn(256))
		}
		play(t, mustOpen(t, b), l, calls)
	}
}

// play calls a reader of entries, a call a byte.
func play(t *testing.T, r *Reader, l []api.Entry, calls []byte) {
	t.Helper()
	at := 0
	for _, c := range calls {
		var want api.Entry
		there := at < len(l)
		if there {
			want = l[at]
		}
		switch c % 3 {
		case 0:
			if e, ok := r.Peek(); e != want || ok != there {
				t.Fatalf("%v: Peek() = %v, %v at %d", calls, e, ok, at)
			}
		case 1:
			if e, ok := r.Next(); e != want || ok != there {
				t.Fatalf("%v: Next() = %v, %v at %d", calls, e, ok, at)
			}
			at = min(at+1, len(l))
		default:
			if n := r.Left(); n != len(l)-at {
				t.Fatalf("%v: Left() = %d at %d", calls, n, at)
			}
		}
	}
}

// P1, P10.1: any bytes, as they are, and, parted, as payloads of records that are right; and calls in any turn.
func FuzzOpen(f *testing.F) {
	f.Add(example(), byte(0), []byte{0, 1, 2})
	f.Add([]byte("\x02|\x02\x00\x01a\x01\x01\x01b\x02|\x01\x00\x01b\x01|\x00\x03"), byte('|'), []byte{1, 2, 1, 0, 1, 1, 0, 2})
	f.Add([]byte("\x01|\x00\x00"), byte('|'), []byte{1, 0, 2})
	f.Fuzz(func(t *testing.T, b []byte, between byte, calls []byte) {
		for _, b := range [][]byte{b, join(bytes.Split(b, []byte{between})...)} {
			l, want := run.Decode(b)
			r, err := Open(b)
			if err != want || (r == nil) != (err != api.OK) {
				t.Fatalf("Open(%v) = %v, %d; want %d", b, r, err, want)
			}
			play(t, r, l, calls)
		}
	})
}
