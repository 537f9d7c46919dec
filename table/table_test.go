package table

import (
	"bytes"
	"math"
	"math/big"
	"math/rand"
	"slices"
	"strconv"
	"strings"
	"testing"
	"unsafe"

	"mantelet/api"
)

const most = uint64(1) << 62

// model is a table as a list in the order in which words came, searched from its start on, with sums without a bound.
type model struct {
	room    int
	entries []api.Entry
}

func (m *model) place(word string) int {
	return slices.IndexFunc(m.entries, func(e api.Entry) bool { return e.Word == word })
}

func (m *model) get(word string) uint64 {
	if at := m.place(word); at >= 0 {
		return m.entries[at].Count
	}
	return 0
}

func (m *model) add(word string, n uint64) api.Errno {
	sum := new(big.Int).SetUint64(m.get(word))
	sum.Add(sum, new(big.Int).SetUint64(n))
	at := m.place(word)
	switch {
	case len(word) == 0, n == 0:
		return api.ErrArg
	case sum.Cmp(new(big.Int).Lsh(big.NewInt(1), 62)) > 0:
		return api.ErrOver
	case at >= 0:
		m.entries[at].Count = sum.Uint64()
	case len(m.entries) == m.room:
		return api.ErrFull
	default:
		m.entries = append(m.entries, api.Entry{Word: word, Count: n})
	}
	return api.OK
}

// below is the document's 'rising byte by byte', of two texts.
func below(a, b string) bool {
	for i := range len(a) {
		if i == len(b) {
			return false
		}
		if a[i] != b[i] {
			return a[i] < b[i]
		}
	}
	return len(a) < len(b)
}

// drain puts each word in at its place.
func (m *model) drain() []api.Entry {
	var out []api.Entry
	for _, e := range m.entries {
		at := 0
		for at < len(out) && below(out[at].Word, e.Word) {
			at++
		}
		out = slices.Insert(out, at, e)
	}
	m.entries = nil
	return out
}

func mustNew(t *testing.T, room int) *Table {
	t.Helper()
	x, err := New(room)
	if x == nil || err != api.OK {
		t.Fatalf("New(%d) = %v, %d", room, x, err)
	}
	return x
}

func mustAdd(t *testing.T, x *Table, word string, n uint64) {
	t.Helper()
	if err := x.Add(word, n); err != api.OK {
		t.Fatalf("Add(%q, %d) = %d", word, n, err)
	}
}

// checkHolds asks a table for all that it holds, without a change of it.
func checkHolds(t *testing.T, x *Table, want ...api.Entry) {
	t.Helper()
	if got := x.Len(); got != len(want) {
		t.Errorf("Len() = %d, want %d", got, len(want))
	}
	for _, e := range want {
		if got := x.Get(e.Word); got != e.Count {
			t.Errorf("Get(%q) = %d, want %d", e.Word, got, e.Count)
		}
	}
}

// checkDrain drains a table, and asks whether it has no words then.
func checkDrain(t *testing.T, x *Table, want ...api.Entry) {
	t.Helper()
	if got := x.Drain(); !slices.Equal(got, want) {
		t.Errorf("Drain() = %v, want %v", got, want)
	}
	checkHolds(t, x)
	for _, e := range want {
		if got := x.Get(e.Word); got != 0 {
			t.Errorf("behind Drain Get(%q) = %d", e.Word, got)
		}
	}
	if again := x.Drain(); len(again) != 0 {
		t.Errorf("a second Drain() = %v", again)
	}
}

// checkRefused is that an Add tells that error and changes nothing.
func checkRefused(t *testing.T, x *Table, word string, n uint64, want api.Errno) {
	t.Helper()
	length, count := x.Len(), x.Get(word)
	if err := x.Add(word, n); err != want {
		t.Errorf("Add(%q, %d) = %d, want %d", word, n, err, want)
	}
	if x.Len() != length || x.Get(word) != count {
		t.Errorf("Add(%q, %d) was refused, but there are %d words, its count %d; were %d, %d", word, n, x.Len(), x.Get(word), length, count)
	}
}

// P8.1: the rooms that may be, and those that may not.
func TestNewRooms(t *testing.T) {
	for _, room := range []int{0, -1, -65536, 65537, 65538, 131072, 1 << 32, 1<<32 + 1, math.MaxInt, math.MinInt} {
		if x, err := New(room); x != nil || err != api.ErrArg {
			t.Errorf("New(%d) = %v, %d, want none, ErrArg", room, x, err)
		}
	}
	for _, room := range []int{1, 2, 3, 255, 256, 257, 4098, 65535, 65536} {
		x := mustNew(t, room)
		checkHolds(t, x)
		if got := x.Get("a"); got != 0 {
			t.Errorf("a new table has a %d", got)
		}
		checkDrain(t, x)
	}
}

// P8.1, P8.2: as many words as there is room for, and none more; a word that is there goes on being counted.
func TestFull(t *testing.T) {
	for _, room := range []int{1, 2, 7, 1000, 65535, 65536} {
		x := mustNew(t, room)
		for round := range 2 { // behind Drain there is all the room again
			for i := range room {
				if x.Len() != i {
					t.Fatalf("room %d: %d words behind %d", room, x.Len(), i)
				}
				mustAdd(t, x, "w"+strconv.Itoa(i), uint64(i+1))
			}
			checkRefused(t, x, "new", 1, api.ErrFull)
			checkRefused(t, x, "w", most, api.ErrFull)
			checkRefused(t, x, "w"+strconv.Itoa(room), 1, api.ErrFull)
			mustAdd(t, x, "w0", 1)
			mustAdd(t, x, "w"+strconv.Itoa(room-1), 5)
			checkRefused(t, x, "new", 1, api.ErrFull)
			checkFilled(t, x, room, round)
		}
	}
}

// checkFilled drains the words that TestFull counts.
func checkFilled(t *testing.T, x *Table, room, round int) {
	t.Helper()
	var want []api.Entry
	for i := range room {
		n := uint64(i + 1)
		if i == 0 {
			n++
		}
		if i == room-1 {
			n += 5
		}
		want = append(want, api.Entry{Word: "w" + strconv.Itoa(i), Count: n})
	}
	checkHolds(t, x, want...)
	slices.SortFunc(want, func(a, b api.Entry) int { return bytes.Compare([]byte(a.Word), []byte(b.Word)) })
	if got := x.Drain(); !slices.Equal(got, want) {
		t.Errorf("room %d, round %d: %d words drained, or others than were counted", room, round, len(got))
	}
}

// P8.1: the document's examples.
func TestExample(t *testing.T) {
	x := mustNew(t, 2)
	mustAdd(t, x, "a", 1)
	mustAdd(t, x, "b", 1)
	mustAdd(t, x, "a", 1)
	checkRefused(t, x, "c", 1, api.ErrFull)
	checkHolds(t, x, api.Entry{Word: "a", Count: 2}, api.Entry{Word: "b", Count: 1})
	checkDrain(t, x, api.Entry{Word: "a", Count: 2}, api.Entry{Word: "b", Count: 1})
}

// P8.1: counts up to the greatest one, and one more.
func TestGreatCounts(t *testing.T) {
	for _, c := range []struct{ was, n uint64 }{
		{0, most}, {1, most - 1}, {most - 1, 1}, {most / 2, most / 2}, {most/2 + 1, most/2 - 1},
	} {
		x := mustNew(t, 2)
		if c.was > 0 {
			mustAdd(t, x, "a", c.was)
		}
		for _, n := range []uint64{c.n + 1, c.n + 2, most + 1, 1 << 63, math.MaxUint64, math.MaxUint64 - c.was, math.MaxUint64 - c.was + 1} {
			if n > 0 {
				checkRefused(t, x, "a", n, api.ErrOver)
			}
		}
		mustAdd(t, x, "a", c.n)
		checkHolds(t, x, api.Entry{Word: "a", Count: most})
		for _, n := range []uint64{1, 2, most - 1, most, most + 1, 1 << 63, math.MaxUint64} {
			checkRefused(t, x, "a", n, api.ErrOver)
		}
		mustAdd(t, x, "b", most) // the bound is each word's own
		checkDrain(t, x, api.Entry{Word: "a", Count: most}, api.Entry{Word: "b", Count: most})
	}
}

// P8.1, R1: which error comes first, and that nothing is changed by what is refused.
func TestFirstError(t *testing.T) {
	x := mustNew(t, 2)
	for _, n := range []uint64{0, 1, most, most + 1, math.MaxUint64} {
		checkRefused(t, x, "", n, api.ErrArg)
	}
	checkRefused(t, x, "a", 0, api.ErrArg)
	checkRefused(t, x, "a", most+1, api.ErrOver)
	checkHolds(t, x)
	mustAdd(t, x, "a", most)
	mustAdd(t, x, "b", 7)
	for _, c := range []struct {
		word string
		n    uint64
		want api.Errno
	}{
		{"", 0, api.ErrArg}, {"", 1, api.ErrArg}, {"", math.MaxUint64, api.ErrArg},
		{"a", 0, api.ErrArg}, {"b", 0, api.ErrArg}, {"c", 0, api.ErrArg},
		{"a", 1, api.ErrOver}, {"a", math.MaxUint64, api.ErrOver}, {"b", most - 6, api.ErrOver}, {"b", math.MaxUint64 - 6, api.ErrOver},
		{"c", most + 1, api.ErrOver}, {"c", math.MaxUint64, api.ErrOver}, {"c", most, api.ErrFull}, {"c", 1, api.ErrFull},
	} {
		checkRefused(t, x, c.word, c.n, c.want)
		checkHolds(t, x, api.Entry{Word: "a", Count: most}, api.Entry{Word: "b", Count: 7})
	}
	mustAdd(t, x, "b", most-7)
	checkDrain(t, x, api.Entry{Word: "a", Count: most}, api.Entry{Word: "b", Count: most})
}

// P8.1: words that are there, and such that aren't, asked for; asking makes none.
func TestGet(t *testing.T) {
	x := mustNew(t, 3)
	mustAdd(t, x, "ab", 3)
	mustAdd(t, x, "a\x00", 4)
	for _, word := range []string{"", "a", "b", "abc", "AB", "ab ", "\x00", "a\x00\x00", "\xFF", strings.Repeat("ab", 1000)} {
		if got := x.Get(word); got != 0 {
			t.Errorf("Get(%q) = %d", word, got)
		}
	}
	checkHolds(t, x, api.Entry{Word: "ab", Count: 3}, api.Entry{Word: "a\x00", Count: 4})
	mustAdd(t, x, "a", 1) // the room is still there
	checkDrain(t, x, api.Entry{Word: "a", Count: 1}, api.Entry{Word: "a\x00", Count: 4}, api.Entry{Word: "ab", Count: 3})
}

// P8.2: words rise byte by byte, also where one begins another, and whatever bytes they are.
func TestDrainOrder(t *testing.T) {
	for _, rising := range [][]string{
		nil,
		{"a"},
		{"a", "aa", "aaa", "aab", "ab", "b", "ba"},
		{"\x00", "\x00\x00", "\x00\x01", "\x01", "\x7F", "\x80", "\x80\x00", "\xFE\xFF", "\xFF", "\xFF\x00", "\xFF\xFF"},
		{"A", "B", "Z", "a", "b", "z", "z\x00", "za", "ä", "я", "一", "\uFFFD", "😀", "\xFF"},
		{"w0", "w1", "w10", "w100", "w11", "w2", "w20", "w9"},
		{strings.Repeat("x", 32), strings.Repeat("x", 33), strings.Repeat("x", 5000), strings.Repeat("x", 5000) + "a", strings.Repeat("x", 5000) + "b", "y"},
	} {
		var want []api.Entry
		for i, word := range rising {
			want = append(want, api.Entry{Word: word, Count: uint64(i + 1)})
		}
		for seed := range int64(20) {
			x := mustNew(t, max(1, len(rising)))
			for _, i := range rand.New(rand.NewSource(seed)).Perm(len(rising)) {
				mustAdd(t, x, rising[i], uint64(i+1))
			}
			checkHolds(t, x, want...)
			checkDrain(t, x, want...)
		}
	}
}

// P8.1: bytes alone tell words apart; all of one and of two bytes are words.
func TestShortWords(t *testing.T) {
	x := mustNew(t, 65536)
	var want []api.Entry
	for a := range 256 {
		want = append(want, api.Entry{Word: string([]byte{byte(a)}), Count: uint64(a + 1)})
		for b := range 255 { // 65536 in all
			want = append(want, api.Entry{Word: string([]byte{byte(a), byte(b)}), Count: uint64(a*256 + b + 1)})
		}
	}
	for _, i := range rand.New(rand.NewSource(8)).Perm(len(want)) {
		mustAdd(t, x, want[i].Word, want[i].Count)
	}
	checkRefused(t, x, "\x00\xFF", 1, api.ErrFull)
	checkHolds(t, x, want...)
	checkDrain(t, x, want...)
}

// P8.1, P8.2: a table that was drained has nothing of what has stood in it, and all its room.
func TestFilledAgain(t *testing.T) {
	x := mustNew(t, 2)
	mustAdd(t, x, "a", most)
	mustAdd(t, x, "b", 2)
	checkDrain(t, x, api.Entry{Word: "a", Count: most}, api.Entry{Word: "b", Count: 2})
	mustAdd(t, x, "c", 3)
	checkHolds(t, x, api.Entry{Word: "c", Count: 3})
	mustAdd(t, x, "a", 1) // from 0 on
	checkRefused(t, x, "b", 1, api.ErrFull)
	checkDrain(t, x, api.Entry{Word: "a", Count: 1}, api.Entry{Word: "c", Count: 3})
	checkRefused(t, x, "", 1, api.ErrArg)
	checkDrain(t, x)
	mustAdd(t, x, "b", most)
	checkDrain(t, x, api.Entry{Word: "b", Count: most})
}

// P8.2, P1: each call of a Table that is nil, and of one that New didn't make, which has no room.
func TestNoTable(t *testing.T) {
	var none *Table
	for _, word := range []string{"", "a"} {
		for _, n := range []uint64{0, 1, most, most + 1, math.MaxUint64} {
			checkRefused(t, none, word, n, api.ErrArg)
		}
	}
	checkDrain(t, none)
	for range 2 {
		x := new(Table)
		checkRefused(t, x, "", 1, api.ErrArg)
		checkRefused(t, x, "a", most+1, api.ErrOver)
		checkRefused(t, x, "a", 1, api.ErrFull)
		checkDrain(t, x)
	}
}

// P8.3: words with their counts, in every order, are drained as the same.
func TestEveryOrder(t *testing.T) {
	adds := []api.Entry{{Word: "b", Count: 2}, {Word: "a", Count: 1}, {Word: "ab", Count: most - 1}, {Word: "b", Count: 5}, {Word: "ab", Count: 1}, {Word: "a", Count: 4}, {Word: "c", Count: 9}}
	want := []api.Entry{{Word: "a", Count: 5}, {Word: "ab", Count: most}, {Word: "b", Count: 7}, {Word: "c", Count: 9}}
	orders := 0
	var from func(at int)
	from = func(at int) {
		if at == len(adds) {
			orders++
			for _, room := range []int{4, 5} {
				x := mustNew(t, room)
				for _, e := range adds {
					mustAdd(t, x, e.Word, e.Count)
				}
				checkDrain(t, x, want...)
			}
			return
		}
		for i := at; i < len(adds); i++ {
			adds[at], adds[i] = adds[i], adds[at]
			from(at + 1)
			adds[at], adds[i] = adds[i], adds[at]
		}
	}
	from(0)
	if orders != 5040 {
		t.Errorf("%d orders", orders)
	}
}

// P8.3: how a count is parted, and how words stand between, is not to be seen.
func TestPartedCounts(t *testing.T) {
	r := rand.New(rand.NewSource(83))
	for range 200 {
		var adds, want []api.Entry
		for w := range r.Intn(40) {
			e := api.Entry{Word: "w" + string(rune('A'+w))}
			for range 1 + r.Intn(6) {
				n := 1 + r.Uint64()%(most/8)
				adds = append(adds, api.Entry{Word: e.Word, Count: n})
				e.Count += n
			}
			want = append(want, e)
		}
		for range 3 {
			r.Shuffle(len(adds), func(i, j int) { adds[i], adds[j] = adds[j], adds[i] })
			x := mustNew(t, max(1, len(want)))
			for _, e := range adds {
				mustAdd(t, x, e.Word, e.Count)
			}
			checkDrain(t, x, want...)
		}
	}
}

// checkBoth does one thing, told by a byte, to a table and to its model.
func checkBoth(t *testing.T, x *Table, m *model, what byte, word string, n uint64) {
	t.Helper()
	switch {
	case what%16 == 0:
		if got, want := x.Drain(), m.drain(); !slices.Equal(got, want) {
			t.Errorf("Drain() = %v, want %v", got, want)
		}
	case what%16 < 4:
		if got, want := x.Get(word), m.get(word); got != want {
			t.Errorf("Get(%q) = %d, want %d", word, got, want)
		}
	default:
		if got, want := x.Add(word, n), m.add(word, n); got != want {
			t.Errorf("Add(%q, %d) = %d, want %d", word, n, got, want)
		}
		if got, want := x.Get(word), m.get(word); got != want {
			t.Errorf("behind Add Get(%q) = %d, want %d", word, got, want)
		}
	}
	if x.Len() != len(m.entries) {
		t.Errorf("Len() = %d, want %d", x.Len(), len(m.entries))
	}
}

// P8.1, P8.2: any calls in any order, against a list that is searched.
func TestAnyCalls(t *testing.T) {
	r := rand.New(rand.NewSource(8))
	counts := []uint64{0, 1, 1, 2, 3, most / 2, most - 1, most, most + 1, 1 << 63, math.MaxUint64}
	for range 300 {
		room := 1 + r.Intn(30)
		x, m := mustNew(t, room), &model{room: room}
		for range 300 {
			word := make([]byte, r.Intn(4))
			for i := range word {
				word[i] = "\x00ab\xFF"[r.Intn(4)]
			}
			what := byte(1 + r.Intn(15))
			if r.Intn(50) == 0 {
				what = 0
			}
			checkBoth(t, x, m, what, string(word), counts[r.Intn(len(counts))])
		}
		checkBoth(t, x, m, 0, "", 0)
	}
}

// R3: what is drained is the caller's own: it stays as it is while the table goes on, and a change of it changes no table.
func TestDrainedIsOwn(t *testing.T) {
	x := mustNew(t, 4)
	mustAdd(t, x, "a", 1)
	mustAdd(t, x, "b", 2)
	first := x.Drain()
	mustAdd(t, x, "c", 3)
	mustAdd(t, x, "a", 9)
	second := x.Drain()
	mustAdd(t, x, "d", 4)
	if want := []api.Entry{{Word: "a", Count: 1}, {Word: "b", Count: 2}}; !slices.Equal(first, want) {
		t.Errorf("what was drained first is %v now", first)
	}
	if want := []api.Entry{{Word: "a", Count: 9}, {Word: "c", Count: 3}}; !slices.Equal(second, want) {
		t.Errorf("what was drained then is %v now", second)
	}
	clear(first[:cap(first)])
	clear(second[:cap(second)])
	checkDrain(t, x, api.Entry{Word: "d", Count: 4})
}

// R3: a word is kept as it was, whatever becomes of the memory in which it was handed in.
func TestWordIsOwn(t *testing.T) {
	text := []byte("abcdef")
	word := unsafe.String(&text[0], 3)
	x := mustNew(t, 2)
	mustAdd(t, x, word, 1)
	mustAdd(t, x, word, 1)
	copy(text, "xyz")
	checkHolds(t, x, api.Entry{Word: "abc", Count: 2})
	checkDrain(t, x, api.Entry{Word: "abc", Count: 2})
}

// R4: two tables know nothing of each other.
func TestTwoTables(t *testing.T) {
	x, y := mustNew(t, 1), mustNew(t, 2)
	mustAdd(t, x, "a", 1)
	mustAdd(t, y, "a", 5)
	mustAdd(t, y, "b", 6)
	checkRefused(t, x, "b", 1, api.ErrFull)
	checkDrain(t, x, api.Entry{Word: "a", Count: 1})
	checkHolds(t, y, api.Entry{Word: "a", Count: 5}, api.Entry{Word: "b", Count: 6})
	mustAdd(t, x, "b", 1)
	checkDrain(t, y, api.Entry{Word: "a", Count: 5}, api.Entry{Word: "b", Count: 6})
	checkDrain(t, x, api.Entry{Word: "b", Count: 1})
}

// P1: a word of many bytes, and many Adds.
func TestMany(t *testing.T) {
	x := mustNew(t, 2)
	long := strings.Repeat("ab", 1<<20)
	for range 10 {
		mustAdd(t, x, long, 3)
	}
	mustAdd(t, x, long+"c", 1)
	checkRefused(t, x, long[1:], 1, api.ErrFull)
	checkDrain(t, x, api.Entry{Word: long, Count: 30}, api.Entry{Word: long + "c", Count: 1})
	for range 1 << 20 {
		mustAdd(t, x, "a", 1<<40)
	}
	checkDrain(t, x, api.Entry{Word: "a", Count: 1 << 60})
}

// P8.1, P8.2: calls that are read from bytes: what is done, how long the word is, which count.
func FuzzCalls(f *testing.F) {
	f.Add(2, []byte("\x07\x01a\x01\x07\x01b\x01\x07\x01a\x01\x07\x01c\x01\x00"))
	f.Add(1, []byte("\x07\x01a\x3e\x07\x01a\x00\x05\x02ab\x05\x00\x00"))
	f.Add(0, []byte{})
	f.Fuzz(func(t *testing.T, room int, b []byte) {
		x, err := New(room)
		if may := room > 0 && room < 65537; may != (err == api.OK) || may != (x != nil) || !may && err != api.ErrArg {
			t.Fatalf("New(%d) = %v, %d", room, x, err)
		}
		if x == nil {
			return
		}
		m := &model{room: room}
		for len(b) > 3 {
			what, shift, size := b[0], b[1], min(int(b[2]%8), len(b)-3)
			checkBoth(t, x, m, what, string(b[3:3+size]), uint64(shift>>7)+uint64(1)<<(shift%65))
			b = b[3+size:]
		}
		checkBoth(t, x, m, 0, "", 0)
	})
}
