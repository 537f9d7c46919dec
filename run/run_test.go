package run

import (
	"bytes"
	"encoding/binary"
	"hash/crc32"
	"math"
	"math/rand"
	"runtime"
	"slices"
	"strconv"
	"strings"
	"testing"

	"mantelet/api"
)

const most = uint64(1) << 62

// record is a record of a payload, made by the library alone.
func record(payload []byte) []byte {
	b := binary.AppendUvarint(nil, uint64(len(payload)))
	b = append(b, payload...)
	return binary.LittleEndian.AppendUint32(b, crc32.ChecksumIEEE(payload))
}

func numbers(l ...uint64) []byte {
	var b []byte
	for _, n := range l {
		b = binary.AppendUvarint(b, n)
	}
	return b
}

// begin is how many bytes two words begin with, found from the longest on.
func begin(a, b string) int {
	n := len(a)
	for !strings.HasPrefix(b, a[:n]) {
		n--
	}
	return n
}

// packed is the chapter's block of entries.
func packed(l []api.Entry) []byte {
	b := numbers(uint64(len(l)))
	for i, e := range l {
		same := 0
		if i > 0 {
			same = begin(l[i-1].Word, e.Word)
		}
		rest := e.Word[same:]
		b = append(b, numbers(uint64(same), uint64(len(rest)))...)
		b = append(b, rest...)
		b = append(b, numbers(e.Count)...)
	}
	return b
}

// payloadsOf are the payloads of the chapter's run.
func payloadsOf(l []api.Entry, size int) [][]byte {
	out := [][]byte{numbers(uint64(size))}
	for left := l; len(left) > 0; {
		n := min(size, len(left))
		out = append(out, packed(left[:n]))
		left = left[n:]
	}
	return append(out, numbers(0, uint64(len(l))))
}

func join(payloads ...[]byte) []byte {
	var b []byte
	for _, payload := range payloads {
		b = append(b, record(payload)...)
	}
	return b
}

// runOf is the chapter's run of entries.
func runOf(l []api.Entry, size int) []byte {
	return join(payloadsOf(l, size)...)
}

// below is the document's 'rising byte by byte', of two texts.
func below(a, b string) bool {
	for i := range len(a) {
		if i == len(b) {
			return false
		}
		if a[i] != b[i] {
			return a[i] < b[i]
		}
	}
	return len(a) < len(b)
}

// may is what P9.1 says of May.
func may(l []api.Entry) api.Errno {
	rises := api.OK
	for i, e := range l {
		if len(e.Word) == 0 || len(e.Word) >= 256 || e.Count == 0 || e.Count-1 >= most {
			return api.ErrArg
		}
		if i > 0 && !below(l[i-1].Word, e.Word) {
			rises = api.ErrOrder
		}
	}
	return rises
}

// tape reads strictly: what isn't as the chapter says leaves it broken.
type tape struct {
	left   []byte
	broken bool
}

func (p *tape) number() uint64 {
	n, size := binary.Uvarint(p.left)
	if size <= 0 || len(numbers(n)) != size {
		p.broken, p.left = true, nil
		return 0
	}
	p.left = p.left[size:]
	return n
}

func (p *tape) bytes(n uint64) []byte {
	if n > uint64(len(p.left)) {
		p.broken, p.left = true, nil
		return nil
	}
	b := p.left[:n]
	p.left = p.left[n:]
	return b
}

func (p *tape) record() []byte {
	n := p.number()
	if n > 1<<20 {
		p.broken = true
		return nil
	}
	payload := p.bytes(n)
	sum := p.bytes(4)
	if p.broken || binary.LittleEndian.Uint32(sum) != crc32.ChecksumIEEE(payload) {
		p.broken = true
		return nil
	}
	return payload
}

// expectBlock are the entries of a block of a run, each thing that the chapter says of it asked for by itself.
func expectBlock(payload []byte) ([]api.Entry, bool) {
	p := &tape{left: payload}
	n := p.number()
	if n > uint64(len(payload)) {
		return nil, false
	}
	var l []api.Entry
	ahead := ""
	for range n {
		same := p.number()
		rest := string(p.bytes(p.number()))
		count := p.number()
		if p.broken || same > uint64(len(ahead)) {
			return nil, false
		}
		word := ahead[:same] + rest
		if len(word) > 255 || begin(ahead, word) != int(same) {
			return nil, false
		}
		l = append(l, api.Entry{Word: word, Count: count})
		ahead = word
	}
	return l, !p.broken && len(p.left) == 0
}

// expect are the entries of a run, and its size; 0: it is none.
func expect(b []byte) ([]api.Entry, int) {
	p := &tape{left: b}
	head := &tape{left: p.record()}
	size := head.number()
	if p.broken || head.broken || len(head.left) > 0 || size < 1 || size > 255 {
		return nil, 0
	}
	var l []api.Entry
	for whole := true; ; {
		payload := p.record()
		if p.broken {
			return nil, 0
		}
		if len(payload) > 0 && payload[0] == 0 {
			if len(p.left) > 0 || !bytes.Equal(payload, numbers(0, uint64(len(l)))) || may(l) != api.OK {
				return nil, 0
			}
			return l, int(size)
		}
		block, ok := expectBlock(payload)
		if !ok || !whole || uint64(len(block)) > size {
			return nil, 0
		}
		whole = uint64(len(block)) == size
		l = append(l, block...)
	}
}

// checkEncode holds May and Encode against P9.1, so R1 as well, and R3's first half.
func checkEncode(t *testing.T, l []api.Entry, size int) {
	t.Helper()
	was := slices.Clone(l)
	want := may(l)
	if err := May(l); err != want {
		t.Errorf("May(%v) = %d, want %d", short(l), err, want)
	}
	var wantRun []byte
	if size < 1 || size > 255 {
		want = api.ErrArg
	} else if want == api.OK {
		wantRun = runOf(l, size)
	}
	b, err := Encode(l, size)
	if !bytes.Equal(b, wantRun) || err != want {
		t.Errorf("Encode(%v, %d) = %v, %d; want %v, %d", short(l), size, short(b), err, short(wantRun), want)
	}
	if !slices.Equal(l, was) {
		t.Errorf("Encode turned %v", short(was))
	}
	if want != api.OK {
		return
	}
	if back, err := Decode(b); !slices.Equal(back, l) || err != api.OK {
		t.Errorf("in blocks of %d: %v is decoded as %v, %d", size, short(l), short(back), err)
	}
}

// checkDecode holds Decode against P9.2, so R1 as well, and R3's first half; and P9.3: what is decoded is encoded as it stood.
func checkDecode(t *testing.T, b []byte) bool {
	t.Helper()
	was := bytes.Clone(b)
	want, size := expect(was)
	wantErr := api.OK
	if size == 0 {
		wantErr = api.ErrForm
	}
	l, err := Decode(b)
	if !slices.Equal(l, want) || err != wantErr {
		t.Errorf("Decode(%v) = %v, %d; want %v, %d", short(was), short(l), err, short(want), wantErr)
	}
	if !bytes.Equal(b, was) {
		t.Errorf("Decode turned %v", short(was))
	}
	if size > 0 {
		if again, err := Encode(l, size); !bytes.Equal(again, was) || err != api.OK {
			t.Errorf("%v is encoded again as %v, %d", short(was), short(again), err)
		}
	}
	return size > 0
}

// none tells of bytes that aren't a run, and holds the test's own reading against that, too.
func none(t *testing.T, name string, b []byte) {
	t.Helper()
	if checkDecode(t, b) {
		t.Errorf("%s: %v is a run", name, short(b))
	}
	if l, err := Decode(b); len(l) != 0 || err != api.ErrForm {
		t.Errorf("%s: %v, %d; want ErrForm", name, short(l), err)
	}
}

func short[T any](l []T) []T {
	return l[:min(len(l), 40)]
}

func entries(l ...any) []api.Entry {
	var out []api.Entry
	for i := 0; i < len(l); i += 2 {
		out = append(out, api.Entry{Word: l[i].(string), Count: uint64(l[i+1].(int))})
	}
	return out
}

// risen are entries of random words over few bytes, so that they often share begins.
func risen(r *rand.Rand, n int) []api.Entry {
	seen := map[string]int{}
	for range n {
		b := make([]byte, 1+r.Intn(6))
		for i := range b {
			b[i] = "\x00ab\xFF"[r.Intn(4)]
		}
		seen[string(b)] = 1
	}
	var l []api.Entry
	for word := range seen {
		l = append(l, api.Entry{Word: word})
	}
	slices.SortFunc(l, func(a, b api.Entry) int { return strings.Compare(a.Word, b.Word) })
	for i := range l {
		l[i].Count = 1 + r.Uint64()>>(2+r.Intn(62))
	}
	return l
}

func samples() [][]api.Entry {
	r := rand.New(rand.NewSource(9))
	return [][]api.Entry{
		nil,
		entries("a", 1),
		entries("a", 1, "ab", 2),
		entries("a", 1, "ab", 300, "abc", 1<<62, "b", 7, "ä", 2),
		entries("\x00", 1, "\x00\x00", 127, "\x00\x01", 128, "\xFF", 16383, "\xFF\xFE", 16384, "\xFF\xFF", 1),
		entries("ab", 5, "abab", 5, "ababab", 5, "abac", 5, "b", 5, "ba", 5),
		entries(strings.Repeat("a", 254), 1, strings.Repeat("a", 255), 2, strings.Repeat("a", 254)+"b", 3),
		risen(r, 9),
		risen(r, 40),
	}
}

// P9.1: the chapter's example, and runs that are written out.
func TestWritten(t *testing.T) {
	two := entries("a", 1, "ab", 2)
	for _, c := range []struct {
		l        []api.Entry
		size     int
		payloads [][]byte
	}{
		{nil, 1, [][]byte{{1}, {0, 0}}},
		{nil, 255, [][]byte{{255, 1}, {0, 0}}},
		{[]api.Entry{}, 128, [][]byte{{128, 1}, {0, 0}}},
		{two, 2, [][]byte{{2}, {2, 0, 1, 'a', 1, 1, 1, 'b', 2}, {0, 2}}},
		{two, 3, [][]byte{{3}, {2, 0, 1, 'a', 1, 1, 1, 'b', 2}, {0, 2}}},
		{two, 1, [][]byte{{1}, {1, 0, 1, 'a', 1}, {1, 0, 2, 'a', 'b', 2}, {0, 2}}},
		{entries("ab", 300, "abc", 1, "ac", 7, "ä", 2), 3, [][]byte{{3}, {3, 0, 2, 'a', 'b', 172, 2, 2, 1, 'c', 1, 1, 1, 'c', 7}, {1, 0, 2, 0xC3, 0xA4, 2}, {0, 4}}},
		{entries("\xC3\xA4", 1, "\xC3\xB6", 1<<62), 9, [][]byte{{9}, {2, 0, 2, 0xC3, 0xA4, 1, 1, 1, 0xB6, 128, 128, 128, 128, 128, 128, 128, 128, 64}, {0, 2}}},
	} {
		if b, err := Encode(c.l, c.size); !bytes.Equal(b, join(c.payloads...)) || err != api.OK {
			t.Errorf("%v in blocks of %d: %v, %d", c.l, c.size, b, err)
		}
		if l, err := Decode(join(c.payloads...)); !slices.Equal(l, c.l) || err != api.OK {
			t.Errorf("%v in blocks of %d is decoded as %v, %d", c.l, c.size, l, err)
		}
	}
	// The first bytes of all, without the test's own records: the empty run in blocks of 1.
	if b, _ := Encode(nil, 1); !bytes.Equal(b, []byte{1, 1, 0x1B, 0xDF, 0x05, 0xA5, 2, 0, 0, 0xFF, 0x12, 0xD9, 0x41}) {
		t.Errorf("the empty run: %x", b)
	}
}

// P9.1: the edges of words and counts, alone and among others.
func TestEdges(t *testing.T) {
	for _, length := range []int{0, 1, 2, 127, 128, 254, 255, 256, 257, 1 << 16} {
		for _, count := range []uint64{0, 1, 2, 127, 128, most - 1, most, most + 1, 1 << 63, math.MaxUint64} {
			e := api.Entry{Word: strings.Repeat("m", length), Count: count}
			want := api.OK
			if length == 0 || length > 255 || count == 0 || count > most {
				want = api.ErrArg
			}
			first, last := api.Entry{Word: "a", Count: 1}, api.Entry{Word: "z", Count: 1}
			for _, l := range [][]api.Entry{{e}, {first, e}, {e, last}, {first, e, last}} {
				if err := May(l); err != want && length > 0 {
					t.Errorf("May, a word of %d bytes, count %d: %d, want %d", length, count, err, want)
				}
				for _, size := range []int{1, 2, 3, 255} {
					checkEncode(t, l, size)
				}
			}
		}
	}
}

// P9.1: words that are the same, that fall, and where one begins another.
func TestOrder(t *testing.T) {
	for _, c := range []struct {
		a, b string
		want api.Errno
	}{
		{"a", "b", api.OK},
		{"a", "a", api.ErrOrder},
		{"b", "a", api.ErrOrder},
		{"a", "ab", api.OK},
		{"ab", "a", api.ErrOrder},
		{"ab", "b", api.OK},
		{"b", "ab", api.ErrOrder},
		{"a", "a\x00", api.OK},
		{"a\x00", "a", api.ErrOrder},
		{"z", "ä", api.OK},
		{"ä", "z", api.ErrOrder},
		{"\x7F", "\x80", api.OK},
		{"\x80", "\x7F", api.ErrOrder},
		{"A", "a", api.OK},
		{"a", "A", api.ErrOrder},
		{strings.Repeat("a", 254), strings.Repeat("a", 255), api.OK},
		{strings.Repeat("a", 255), strings.Repeat("a", 255), api.ErrOrder},
	} {
		pair := []api.Entry{{Word: c.a, Count: 9}, {Word: c.b, Count: 1}}
		ahead := append([]api.Entry{{Word: "\x01", Count: 1}, {Word: "\x02", Count: 1}}, pair...)
		behind := append(slices.Clone(pair), api.Entry{Word: "\xFF", Count: 1})
		for _, l := range [][]api.Entry{pair, ahead, behind} {
			if err := May(l); err != c.want {
				t.Errorf("%q, %q: %d, want %d", c.a, c.b, err, c.want)
			}
			// Also where the two stand in two blocks.
			for _, size := range []int{1, 2, 3, 4, 255} {
				checkEncode(t, l, size)
			}
		}
	}
}

// P9.1, R1: which error comes first.
func TestFirstError(t *testing.T) {
	falls := entries("b", 1, "a", 1)
	for i, c := range []struct {
		l    []api.Entry
		size int
		want api.Errno
	}{
		{falls, 1, api.ErrOrder},
		{falls, 255, api.ErrOrder},
		{falls, 0, api.ErrArg},
		{falls, 256, api.ErrArg},
		{entries("b", 1, "a", 0), 1, api.ErrArg},
		{entries("b", 1, "a", 1, "", 1), 1, api.ErrArg},
		{entries("b", 1, "b", 1, "c", 1, strings.Repeat("d", 256), 1), 2, api.ErrArg},
		{append(entries("b", 1, "a", 1, "c", 1), api.Entry{Word: "d", Count: most + 1}), 2, api.ErrArg},
		{entries("c", 0, "b", 1, "a", 1), 2, api.ErrArg},
		{entries("", 1, "", 1), 2, api.ErrArg},
		{entries("a", 1), -1, api.ErrArg},
		{entries("a", 1), math.MaxInt, api.ErrArg},
		{entries("a", 1), math.MinInt, api.ErrArg},
		{nil, 0, api.ErrArg},
		{nil, 256, api.ErrArg},
		{nil, -255, api.ErrArg},
	} {
		b, err := Encode(c.l, c.size)
		if len(b) != 0 || err != c.want {
			t.Errorf("case %d: %v, %d; want %d", i, b, err, c.want)
		}
		checkEncode(t, c.l, c.size)
	}
}

// P9.1: every size that may be and those beside, as many as there are entries, one less and one more among them.
func TestSizes(t *testing.T) {
	for _, l := range samples() {
		for size := -1; size <= 257; size++ {
			checkEncode(t, l, size)
		}
	}
	r := rand.New(rand.NewSource(99))
	l := risen(r, 1600)
	if len(l) < 520 {
		t.Fatal(len(l))
	}
	for _, n := range []int{126, 127, 128, 129, 253, 254, 255, 256, 257, 509, 510, 511, len(l)} {
		for _, size := range []int{1, 2, 127, 128, 129, 254, 255, 256, n - 1, n, n + 1, n / 2, n/2 + 1} {
			checkEncode(t, l[:n], size)
		}
	}
}

// P9.1: all lists of up to four out of five entries, whether they rise or not, and one that may not be.
func TestAllLists(t *testing.T) {
	pool := entries("a", 1, "ab", 2, "b", 3, "ba", 1<<62, "", 1)
	var grow func(l []api.Entry)
	grow = func(l []api.Entry) {
		for _, size := range []int{1, 2, 3} {
			checkEncode(t, l, size)
		}
		if len(l) == 4 {
			return
		}
		for _, e := range pool {
			grow(append(slices.Clone(l), e))
		}
	}
	grow(nil)
}

// P9.1: the greatest block that may be has far fewer than 2^20 bytes, so that it is put.
func TestGreatestBlock(t *testing.T) {
	var l []api.Entry
	for i := range 255 {
		l = append(l, api.Entry{Word: string([]byte{byte(i + 1)}) + strings.Repeat("x", 254), Count: most})
	}
	b, err := Encode(l, 255)
	if err != api.OK || len(b) < 255*(1+2+255+9) || len(b) > 1<<17 {
		t.Errorf("%d bytes, %d", len(b), err)
	}
	checkEncode(t, l, 255)
}

// P1: payloads and blocks are gone through as far as is asked, and no farther.
func TestLeft(t *testing.T) {
	l := entries("a", 1, "b", 2, "c", 3)
	for stop := range 6 {
		count := 0
		for range payloads(l, 1) {
			if count == stop {
				break
			}
			count++
		}
		if count != min(stop, 5) {
			t.Errorf("payloads, left at %d: %d", stop, count)
		}
		count = 0
		for range blocks(payloadsOf(l, 1)[1:4]) {
			if count == stop {
				break
			}
			count++
		}
		if count != min(stop, 3) {
			t.Errorf("blocks, left at %d: %d", stop, count)
		}
	}
}

// P9.2, P9.3: no bytes, runs cut at every place, with bytes behind, and with another byte at any place.
func TestTurned(t *testing.T) {
	none(t, "nothing", nil)
	none(t, "nothing", []byte{})
	for _, l := range samples()[:8] {
		for _, size := range []int{1, 2, 3, 255} {
			b := runOf(l, size)
			if !checkDecode(t, b) {
				t.Fatalf("%v in blocks of %d is no run", short(l), size)
			}
			for cut := range b {
				none(t, "cut", b[:cut])
				none(t, "cut ahead", b[len(b)-cut:])
			}
			for _, behind := range [][]byte{{0}, {1}, {128}, {255}, make([]byte, 5), make([]byte, 9), record(numbers(0, uint64(len(l)))), b, b[:len(b)-1]} {
				none(t, "bytes behind", append(bytes.Clone(b), behind...))
			}
			turned := bytes.Clone(b)
			for at := range turned {
				for _, x := range []byte{1, 2, 128, 255} {
					turned[at] ^= x
					none(t, "another byte", turned)
					turned[at] ^= x
				}
			}
		}
	}
}

// P9.2: payloads with another byte at any place, one less or one more, in records that are right: a run of other entries, or none.
func TestTurnedPayloads(t *testing.T) {
	runs := 0
	for _, l := range samples()[:6] {
		for _, size := range []int{1, 2, 3, 5} {
			for i, payload := range payloadsOf(l, size) {
				with := func(payload []byte) {
					all := payloadsOf(l, size)
					all[i] = payload
					if checkDecode(t, join(all...)) {
						runs++
					}
				}
				for at := range payload {
					for c := range 256 {
						turned := bytes.Clone(payload)
						turned[at] = byte(c)
						with(turned)
					}
					with(payload[:at])
					with(slices.Delete(bytes.Clone(payload), at, at+1))
				}
				for at := range len(payload) + 1 {
					for _, c := range []byte{0, 1, 'a', 128, 255} {
						with(slices.Insert(bytes.Clone(payload), at, c))
					}
				}
			}
		}
	}
	if runs < 100 {
		t.Errorf("%d runs alone among them", runs)
	}
}

// P9.2: each thing that is wrong by itself, in records that are right.
func TestNone(t *testing.T) {
	a, ab, b := []byte{1, 0, 1, 'a', 1}, []byte{1, 0, 2, 'a', 'b', 1}, []byte{1, 0, 1, 'b', 1}
	both := []byte{2, 0, 1, 'a', 1, 1, 1, 'b', 1}
	long := func(n int) []byte {
		return append(append([]byte{1, 0}, numbers(uint64(n))...), strings.Repeat("a", n)+"\x01"...)
	}
	for _, good := range [][]byte{join([]byte{1}, a, ab, []byte{0, 2}), join([]byte{1}, a, b, []byte{0, 2}), join([]byte{2}, both, b, []byte{0, 3}), join([]byte{2}, a, []byte{0, 1}), join([]byte{1}, long(255), []byte{0, 1})} {
		if _, err := Decode(good); err != api.OK || !checkDecode(t, good) {
			t.Errorf("%v: %d", good, err)
		}
	}
	for name, payloads := range map[string][][]byte{
		"no records":                       {},
		"the empty record":                 {{}},
		"two empty records":                {{}, {}},
		"a size alone":                     {{1}},
		"an end alone":                     {{0, 0}},
		"no size":                          {a, {0, 1}},
		"a size of 0":                      {{0}, {0, 0}},
		"a size of 256":                    {{128, 2}, {0, 0}},
		"a size of 2^32+1":                 {numbers(1<<32 + 1), {0, 0}},
		"a size of 2^64-1":                 {numbers(math.MaxUint64), {0, 0}},
		"a size of 2^63+1":                 {numbers(1<<63 + 1), a, {0, 1}},
		"a size with bytes behind":         {{1, 1}, {0, 0}},
		"a size that isn't short":          {{129, 0}, {0, 0}},
		"a size that goes on":              {{129}, {0, 0}},
		"no end":                           {{1}, a},
		"no end, of two":                   {{1}, a, b},
		"an end of 0 alone":                {{1}, {0}},
		"an end with bytes behind":         {{1}, {0, 0, 0}},
		"an end that isn't short":          {{1}, {0, 128, 0}},
		"an end's 0 that isn't short":      {{1}, {128, 0, 0}},
		"an end of 1":                      {{1}, {1, 0}},
		"an end that says more":            {{1}, a, {0, 2}},
		"an end that says fewer":           {{1}, a, b, {0, 1}},
		"an end that says none":            {{1}, a, {0, 0}},
		"an end that says one, of none":    {{1}, {0, 1}},
		"an end that counts blocks":        {{2}, both, b, {0, 2}},
		"two ends":                         {{1}, a, {0, 1}, {0, 1}},
		"two ends, of none":                {{1}, {0, 0}, {0, 0}},
		"an end in between":                {{1}, a, {0, 1}, b, {0, 2}},
		"an end ahead":                     {{1}, {0, 2}, a, b},
		"a block behind the end":           {{1}, a, {0, 1}, b},
		"a run behind the end":             {{1}, a, {0, 1}, {1}, b, {0, 1}},
		"an empty record behind the end":   {{1}, a, {0, 1}, {}},
		"an empty record in between":       {{1}, a, {}, b, {0, 2}},
		"an empty block in between":        {{1}, a, {0}, b, {0, 2}},
		"an empty block ahead":             {{1}, {0}, a, {0, 1}},
		"an empty block behind":            {{1}, a, {0}, {0, 1}},
		"an empty block alone":             {{1}, {0}, {0, 0}},
		"blocks in another turn":           {{1}, b, a, {0, 2}},
		"blocks of 2 in another turn":      {{2}, {2, 0, 1, 'c', 1, 0, 1, 'd', 1}, both, {0, 4}},
		"a block twice":                    {{1}, a, a, {0, 2}},
		"too few entries ahead":            {{2}, a, both, {0, 3}},
		"too few entries ahead, rising":    {{2}, a, []byte{2, 0, 1, 'b', 1, 0, 1, 'c', 1}, {0, 3}},
		"too few entries, twice":           {{2}, a, b, {0, 2}},
		"too many entries":                 {{1}, both, {0, 2}},
		"too many entries behind":          {{1}, a, {2, 0, 1, 'b', 1, 0, 1, 'c', 1}, {0, 3}},
		"more entries than are said":       {{2}, {1, 0, 1, 'a', 1, 0, 1, 'b', 1}, {0, 1}},
		"fewer entries than are said":      {{2}, {2, 0, 1, 'a', 1}, {0, 2}},
		"far fewer entries than are said":  {{2}, append(numbers(math.MaxUint64), a[1:]...), {0, 1}},
		"256 entries and one are said":     {{1}, append(numbers(257), a[1:]...), {0, 1}},
		"a first one that shares":          {{1}, {1, 1, 0, 1}, {0, 1}},
		"a second block that shares":       {{1}, a, {1, 1, 1, 'b', 1}, {0, 2}},
		"a begin that is shorter":          {{2}, {2, 0, 1, 'a', 1, 0, 2, 'a', 'b', 1}, {0, 2}},
		"a begin that is shorter by one":   {{2}, {2, 0, 2, 'a', 'a', 1, 1, 2, 'a', 'b', 1}, {0, 2}},
		"a begin that is longer":           {{2}, {2, 0, 1, 'a', 1, 2, 0, 1}, {0, 2}},
		"a begin that is longer, and more": {{2}, {2, 0, 1, 'a', 1, 2, 1, 'b', 1}, {0, 2}},
		"a begin of 2^64-1":                {{2}, append(append([]byte{2, 0, 1, 'a', 1}, numbers(math.MaxUint64)...), 2, 'b', 'b', 1), {0, 2}},
		"a begin of 2^63":                  {{2}, append(append([]byte{2, 0, 1, 'a', 1}, numbers(1<<63)...), 1, 'b', 1), {0, 2}},
		"a begin of 2^32":                  {{2}, append(append([]byte{2, 0, 1, 'a', 1}, numbers(1<<32)...), 1, 'b', 1), {0, 2}},
		"a begin that isn't short":         {{1}, {1, 128, 0, 1, 'a', 1}, {0, 1}},
		"bytes that aren't there":          {{1}, {1, 0, 3, 'a', 1}, {0, 1}},
		"2^64-1 bytes":                     {{1}, append(append([]byte{1, 0}, numbers(math.MaxUint64)...), 'a', 1), {0, 1}},
		"2^63 bytes":                       {{1}, append(append([]byte{1, 0}, numbers(1<<63)...), 'a', 1), {0, 1}},
		"2^32+1 bytes":                     {{1}, append(append([]byte{1, 0}, numbers(1<<32+1)...), 'a', 1), {0, 1}},
		"bytes' number that isn't short":   {{1}, {1, 0, 129, 0, 'a', 1}, {0, 1}},
		"a word that is empty":             {{1}, {1, 0, 0, 1}, {0, 1}},
		"the same word":                    {{2}, {2, 0, 1, 'a', 1, 1, 0, 1}, {0, 2}},
		"a word that falls":                {{2}, {2, 0, 1, 'b', 1, 0, 1, 'a', 1}, {0, 2}},
		"a word that begins that ahead":    {{2}, {2, 0, 2, 'a', 'b', 1, 1, 0, 1}, {0, 2}},
		"a word of 256 bytes":              {{1}, long(256), {0, 1}},
		"a word of 256 bytes, by sharing":  {{2}, append(append([]byte{2}, long(255)[1:]...), 255, 1, 1, 'b', 1), {0, 2}},
		"a count of 0":                     {{1}, {1, 0, 1, 'a', 0}, {0, 1}},
		"a count of 2^62+1":                {{1}, append([]byte{1, 0, 1, 'a'}, numbers(most+1)...), {0, 1}},
		"a count of 2^64-1":                {{1}, append([]byte{1, 0, 1, 'a'}, numbers(math.MaxUint64)...), {0, 1}},
		"a count that isn't short":         {{1}, {1, 0, 1, 'a', 129, 0}, {0, 1}},
		"a count that goes on":             {{1}, {1, 0, 1, 'a', 129}, {0, 1}},
		"no count":                         {{1}, {1, 0, 1, 'a'}, {0, 1}},
		"a block with bytes behind":        {{1}, {1, 0, 1, 'a', 1, 0}, {0, 1}},
		"a block's number that isn't so":   {{1}, {129, 0, 0, 1, 'a', 1}, {0, 1}},
		"a block that can't be read ahead": {{1}, {255}, a, b, {0, 2}},
	} {
		none(t, name, join(payloads...))
	}
}

// P9.2: the payloads of runs in every other turn, with one left out, and with one twice.
func TestTurns(t *testing.T) {
	l := entries("a", 1, "ab", 2, "abc", 3, "b", 4, "c", 5)
	for _, size := range []int{1, 2, 3} {
		all := payloadsOf(l, size)
		for i := range all {
			none(t, "one left out", join(slices.Delete(slices.Clone(all), i, i+1)...))
			none(t, "one twice", join(slices.Insert(slices.Clone(all), i, all[i])...))
			for k := range i {
				turned := slices.Clone(all)
				turned[i], turned[k] = turned[k], turned[i]
				none(t, "two in another turn "+strconv.Itoa(i)+" "+strconv.Itoa(k), join(turned...))
			}
		}
		for other := 1; other <= 255; other++ {
			all[0] = numbers(uint64(other))
			if is := checkDecode(t, join(all...)); is != (other == size) {
				t.Errorf("blocks of %d told as those of %d: %v", size, other, is)
			}
		}
	}
	// A run of one block is one of any size that has room for it.
	all := payloadsOf(l, 5)
	for other := 1; other <= 255; other++ {
		all[0] = numbers(uint64(other))
		if is := checkDecode(t, join(all...)); is != (other >= 5) {
			t.Errorf("a block of 5 told as one of %d: %v", other, is)
		}
	}
}

// P9.3: two entries' lists and two sizes have two runs.
func TestUnlike(t *testing.T) {
	seen := map[string]string{}
	for i, l := range samples() {
		for size := 1; size <= 255; size++ {
			b, _ := Encode(l, size)
			name := strconv.Itoa(i) + " " + strconv.Itoa(size)
			if was, there := seen[string(b)]; there {
				t.Errorf("%s and %s have the same run", was, name)
			}
			seen[string(b)] = name
		}
	}
}

// R3: answers are the caller's own.
func TestSharesNothing(t *testing.T) {
	l := entries("a", 1, "ab", 2, "b", 3)
	first, _ := Encode(l, 2)
	second, _ := Encode(l, 2)
	clear(first)
	if !bytes.Equal(second, runOf(l, 2)) {
		t.Errorf("two answers share: %v", second)
	}
	one, _ := Decode(second)
	other, _ := Decode(second)
	clear(one)
	if !slices.Equal(other, l) || !bytes.Equal(second, runOf(l, 2)) {
		t.Errorf("two answers share: %v", other)
	}
	clear(second)
	if !slices.Equal(other, l) {
		t.Errorf("an answer hangs on what was handed in: %v", other)
	}
}

// R4: nothing is kept from call to call.
func TestKeepsNothing(t *testing.T) {
	good, bad := entries("a", 1, "ab", 2), entries("b", 1, "a", 1)
	for range 3 {
		checkEncode(t, good, 2)
		checkEncode(t, bad, 2)
		checkDecode(t, runOf(good, 2))
		none(t, "cut", runOf(good, 2)[:9])
	}
}

// P1: many entries, in blocks of one: no work is done anew for every block.
func TestMany(t *testing.T) {
	var l []api.Entry
	for i := range 300000 {
		l = append(l, api.Entry{Word: strconv.Itoa(1000000 + i), Count: uint64(i + 1)})
	}
	for _, size := range []int{1, 7, 255} {
		b, err := Encode(l, size)
		if err != api.OK {
			t.Fatal(err)
		}
		if !bytes.Equal(b, runOf(l, size)) {
			t.Errorf("blocks of %d: another run", size)
		}
		if back, err := Decode(b); !slices.Equal(back, l) || err != api.OK {
			t.Errorf("blocks of %d: %d entries, %d", size, len(back), err)
		}
	}
}

// P1: words that each share all of the one ahead are no reason to take far more memory than a run of as many bytes would.
func TestFewBytesOfMuch(t *testing.T) {
	said := func(count int, more int) []byte {
		b := numbers(uint64(count))
		for i := range count {
			b = append(b, numbers(uint64(i*more), uint64(more))...)
			b = append(b, strings.Repeat("a", more)...)
			b = append(b, 1)
		}
		return join([]byte{255, 1}, b, []byte{0, byte(count % 128)})
	}
	for _, b := range [][]byte{said(255, 4000), said(100000, 1), said(255, 2)} {
		var ahead, behind runtime.MemStats
		runtime.ReadMemStats(&ahead)
		l, err := Decode(b)
		runtime.ReadMemStats(&behind)
		if len(l) != 0 || err != api.ErrForm {
			t.Errorf("%d bytes: %d entries, %d", len(b), len(l), err)
		}
		if taken := behind.TotalAlloc - ahead.TotalAlloc; taken > 1<<23 {
			t.Errorf("%d bytes: %d taken", len(b), taken)
		}
	}
}

// P9.1, P9.2, P9.3: any entries, and what is told of their runs' payloads, turned.
func TestAny(t *testing.T) {
	r := rand.New(rand.NewSource(999))
	for range 3000 {
		l := risen(r, r.Intn(12))
		switch i := r.Intn(max(len(l), 1) * 2); {
		case i < len(l) && r.Intn(3) == 0:
			l[i] = api.Entry{Word: "ab"[:r.Intn(3)], Count: r.Uint64() >> r.Intn(64)}
		case len(l) > 1 && r.Intn(4) == 0:
			k := r.Intn(len(l))
			l[0], l[k] = l[k], l[0]
		}
		checkEncode(t, l, 1+r.Intn(6))
		all := payloadsOf(l, 1+r.Intn(6)) // also of entries that may not be
		checkDecode(t, join(all...))
		at := r.Intn(len(all))
		if i := r.Intn(len(all[at])); r.Intn(2) == 0 {
			all[at][i] = byte(r.Intn(5))
		} else {
			all[at] = all[at][:i]
		}
		checkDecode(t, join(all...))
	}
}

// P1, P9.2, P9.3: any bytes as Decode's, and, parted, as payloads of records that are right.
func FuzzDecode(f *testing.F) {
	f.Add(runOf(entries("a", 1, "ab", 2), 2), byte(0))
	f.Add([]byte("\x01|\x01\x00\x01a\x01|\x00\x01"), byte('|'))
	f.Add([]byte("\x02|\x02\x00\x01a\x01\x01\x01b\x02|\x01\x00\x01b\x01|\x00\x03"), byte('|'))
	f.Fuzz(func(t *testing.T, b []byte, between byte) {
		checkDecode(t, b)
		checkDecode(t, join(bytes.Split(b, []byte{between})...))
	})
}

// P1, P9.1, P9.3: any words and counts, in blocks of any size.
func FuzzEncode(f *testing.F) {
	f.Add("a ab abc b", uint64(1), 2)
	f.Add("b a", uint64(1), 1)
	f.Add("a  b", most, 255)
	f.Fuzz(func(t *testing.T, text string, count uint64, size int) {
		var l []api.Entry
		for i, word := range strings.Split(text, " ") {
			l = append(l, api.Entry{Word: word, Count: count + uint64(i)})
		}
		checkEncode(t, l, size)
		checkEncode(t, l, size&255)
	})
}
