package utf

import (
	"bytes"
	"math/rand"
	"slices"
	"testing"
)

const bad = 0xFFFD

// span is the bytes from lo to hi.
type span struct{ lo, hi byte }

var tail = span{0x80, 0xBF}

// sequences are all well-formed ones, as Unicode's table 3-7 tells them, byte by byte.
var sequences = [][]span{
	{{0x00, 0x7F}},
	{{0xC2, 0xDF}, tail},
	{{0xE0, 0xE0}, {0xA0, 0xBF}, tail},
	{{0xE1, 0xEC}, tail, tail},
	{{0xED, 0xED}, {0x80, 0x9F}, tail},
	{{0xEE, 0xEF}, tail, tail},
	{{0xF0, 0xF0}, {0x90, 0xBF}, tail, tail},
	{{0xF1, 0xF3}, tail, tail, tail},
	{{0xF4, 0xF4}, {0x80, 0x8F}, tail, tail},
}

// fits tells whether b's bytes are in the spans, one by one, as far as b goes.
func fits(b []byte, spans []span) bool {
	if len(b) > len(spans) {
		return false
	}
	for i, c := range b {
		if c < spans[i].lo || c > spans[i].hi {
			return false
		}
	}
	return true
}

// wantPending is what the chapter says: one to three bytes with which a sequence begins, and doesn't end.
func wantPending(b []byte) bool {
	return len(b) > 0 && slices.ContainsFunc(sequences, func(spans []span) bool {
		return len(b) < len(spans) && fits(b, spans)
	})
}

// wantRunes are the runes of b: code points of sequences, and U+FFFD for each byte that begins none.
func wantRunes(b []byte) []rune {
	var runes []rune
	for len(b) > 0 {
		r, size := rune(bad), 1
		for _, spans := range sequences {
			if len(b) >= len(spans) && fits(b[:len(spans)], spans) {
				r, size = codePoint(b[:len(spans)]), len(spans)
			}
		}
		runes, b = append(runes, r), b[size:]
	}
	return runes
}

// codePoint is that of a well-formed sequence.
func codePoint(b []byte) rune {
	if len(b) == 1 {
		return rune(b[0])
	}
	r := rune(b[0]) & (0x7F >> len(b))
	for _, c := range b[1:] {
		r = r<<6 | rune(c&0x3F)
	}
	return r
}

// wantFeed tries every place, the first one first, as P4.2 says.
func wantFeed(pend, chunk []byte) ([]rune, []byte) {
	b := append(bytes.Clone(pend), chunk...)
	for at := range b {
		if wantPending(b[at:]) {
			return wantRunes(b[:at]), b[at:]
		}
	}
	return wantRunes(b), nil
}

// encode lays a code point down in as many bytes as are asked for, be it well-formed or not.
func encode(r rune, size int) []byte {
	if size == 1 {
		return []byte{byte(r)}
	}
	b := make([]byte, size)
	for i := size - 1; i > 0; i-- {
		b[i] = 0x80 | byte(r&0x3F)
		r >>= 6
	}
	b[0] = ^byte(0xFF>>size) | byte(r)
	return b
}

func checkAll(t *testing.T, b []byte) {
	t.Helper()
	was := bytes.Clone(b)
	want := wantRunes(b)
	if got := All(b); !slices.Equal(got, want) {
		t.Errorf("All(%x) = %x, want %x", b, got, want)
	}
	if got := End(b); !slices.Equal(got, want) {
		t.Errorf("End(%x) = %x, want %x", b, got, want)
	}
	if got := Pending(b); got != wantPending(b) {
		t.Errorf("Pending(%x) = %v", b, got)
	}
	if !bytes.Equal(b, was) {
		t.Errorf("%x was turned", was)
	}
}

func checkFeed(t *testing.T, pend, chunk []byte) {
	t.Helper()
	wasPend, wasChunk := bytes.Clone(pend), bytes.Clone(chunk)
	wantL, wantP := wantFeed(pend, chunk)
	l, p := Feed(pend, chunk)
	if !slices.Equal(l, wantL) || !bytes.Equal(p, wantP) {
		t.Errorf("Feed(%x, %x) = %x, %x; want %x, %x", pend, chunk, l, p, wantL, wantP)
	}
	if !bytes.Equal(pend, wasPend) || !bytes.Equal(chunk, wasChunk) {
		t.Errorf("Feed turned %x or %x", wasPend, wasChunk)
	}
}

// checkChunks is P4.3, of bytes in these chunks.
func checkChunks(t *testing.T, chunks ...[]byte) {
	t.Helper()
	var runes []rune
	var pend []byte
	for _, chunk := range chunks {
		checkFeed(t, pend, chunk)
		l, p := Feed(pend, chunk)
		if len(p) > 3 || len(p) > 0 && !wantPending(p) {
			t.Errorf("%x: %x isn't pending", chunks, p)
		}
		runes, pend = append(runes, l...), p
	}
	runes = append(runes, End(pend)...)
	if want := wantRunes(bytes.Join(chunks, nil)); !slices.Equal(runes, want) {
		t.Errorf("fed as %x: %x, want %x", chunks, runes, want)
	}
}

func single(b []byte) [][]byte {
	var l [][]byte
	for i := range b {
		l = append(l, b[i:i+1])
	}
	return l
}

// samples are bytes of all kinds: sequences of each length, beginnings that end early, bytes that begin none, and such that nothing makes well-formed.
func samples() [][]byte {
	var l [][]byte
	for _, s := range []string{
		"", "a", "aé€😀", "\x00\x7F", "\u0080\u07FF\u0800\uFFFF\U00010000\U0010FFFF", "\uD7FF\uE000\uFFFD\uFEFF",
		"\xFFa", "\xE2\x82a", "\xED\xA0\x80", "\xC0\x80", "\xF4\x90\x80\x80", "\x80", "\x80\x80\x80\x80", "\xE2\xE2\xE2\xE2",
		"\xC3", "\xE2", "\xE2\x82", "\xF0", "\xF0\x9F", "\xF0\x9F\x98", "x\xC3", "x\xE2\x82", "x\xF0\x9F\x98",
		"\xF0\x9F\x98\xC3\xA9", "\xF0\x9F\xE2\x82\xF0\x9F\x98\x80\xE2", "\xE2\x82\xE2\x82\xAC", "\xC3\xC3\xA9\xC3",
		"\xE0\x9F\xBF", "\xF0\x8F\xBF\xBF", "\xED\x9F\xBF\xED\xA0", "\xF4\x8F\xBF\xBF\xF4\x90", "\xC1\xBF", "\xF5\x80\x80\x80", "\xFE\xFF", "\xF8\x88\x80\x80\x80",
		"€€€\x82\xAC€", "\xEF\xBB\xBFa", "\xF3\xBF\xBF\xBF\xF3\xBF\xBF",
	} {
		l = append(l, []byte(s))
	}
	return l
}

// edgeBytes are those at which one of the table's spans begins or ends, and their neighbours.
var edgeBytes = []byte{0, 'a', 0x7F, 0x80, 0x82, 0x8F, 0x90, 0x9F, 0xA0, 0xBF, 0xC0, 0xC1, 0xC2, 0xDF, 0xE0, 0xE1, 0xEC, 0xED, 0xEE, 0xEF, 0xF0, 0xF1, 0xF3, 0xF4, 0xF5, 0xF8, 0xFF}

// P4.1, runes that are written out.
func TestAllWritten(t *testing.T) {
	for _, c := range []struct {
		b    string
		want []rune
	}{
		{"", nil},
		{"a", []rune{'a'}},
		{"\x00\x00", []rune{0, 0}},
		{"aé€😀", []rune{'a', 0xE9, 0x20AC, 0x1F600}},
		{"\uFFFD", []rune{bad}},
		{"\x80", []rune{bad}},
		{"\xFFa", []rune{bad, 'a'}},
		{"\xC3", []rune{bad}},
		{"\xE2\x82", []rune{bad, bad}},
		{"\xF0\x9F\x98", []rune{bad, bad, bad}},
		{"\xE2\x82a", []rune{bad, bad, 'a'}},
		{"\xE2\x82\xAC\xAC", []rune{0x20AC, bad}},
		{"\xC3\xC3\xA9", []rune{bad, 0xE9}},
		{"\xC0\x80", []rune{bad, bad}},
		{"\xE0\x80\x80", []rune{bad, bad, bad}},
		{"\xED\xA0\x80", []rune{bad, bad, bad}},
		{"\xF4\x90\x80\x80", []rune{bad, bad, bad, bad}},
	} {
		if got := All([]byte(c.b)); !slices.Equal(got, c.want) {
			t.Errorf("All(%q) = %x, want %x", c.b, got, c.want)
		}
		if got := End([]byte(c.b)); !slices.Equal(got, c.want) {
			t.Errorf("End(%q) = %x, want %x", c.b, got, c.want)
		}
	}
	if len(All(nil)) != 0 || len(End(nil)) != 0 || Pending(nil) {
		t.Error("nothing isn't nothing")
	}
}

// P4.1: each code point is told by its sequence alone; in more bytes than it needs, or out of the bounds, it is none.
func TestEveryCodePoint(t *testing.T) {
	for r := range rune(0x110100) {
		need := 4
		for size, bound := range []rune{0x80, 0x800, 0x10000} {
			if r < bound {
				need = size + 1
				break
			}
		}
		want := []rune{r}
		if r >= 0xD800 && r < 0xE000 || r > 0x10FFFF {
			want = slices.Repeat([]rune{bad}, need)
		}
		if got := All(encode(r, need)); !slices.Equal(got, want) {
			t.Fatalf("%x in %d bytes: %x, want %x", r, need, got, want)
		}
		for size := need + 1; size <= 4; size++ {
			if got := All(encode(r, size)); !slices.Equal(got, slices.Repeat([]rune{bad}, size)) {
				t.Fatalf("%x in %d bytes: %x", r, size, got)
			}
		}
	}
}

// P4.1: of each sequence just the beginnings are pending, not the whole; all else of one to three bytes isn't.
func TestPendingEvery(t *testing.T) {
	for _, size := range []int{1, 2, 3} {
		begins := make([]bool, 1<<(8*size))
		number := func(b []byte) int {
			n := 0
			for _, c := range b {
				n = n<<8 | int(c)
			}
			return n
		}
		for r := range rune(0x110000) {
			if r >= 0xD800 && r < 0xE000 {
				continue
			}
			if b := []byte(string(r)); len(b) > size {
				begins[number(b[:size])] = true
			}
		}
		b := make([]byte, size)
		for n, want := range begins {
			for i := range b {
				b[i] = byte(n >> (8 * (size - 1 - i)))
			}
			if Pending(b) != want {
				t.Fatalf("Pending(%x) isn't %v", b, want)
			}
		}
	}
}

// P4.1: what is of none or of more than three bytes isn't pending, whatever it begins and ends with.
func TestPendingLength(t *testing.T) {
	for _, b := range [][]byte{nil, {}} {
		if Pending(b) {
			t.Error("nothing is pending")
		}
	}
	for _, s := range []string{"\xF0\x9F\x98\x80", "\xF0\x9F\x98\xF0", "\xE2\x82\xAC\xE2", "aaa\xE2", "\xF1\x80\x80\x80\x80", "\xF0\xF0\xF0\xF0", "\xC3\xC3\xC3\xC3\xC3"} {
		if Pending([]byte(s)) {
			t.Errorf("%q is pending", s)
		}
	}
	for _, s := range []string{"a\xC3", "\xE2\x82\xAC\xE2"[2:], "\xC3\xC3", "\xE2\xE2\x82"} {
		if Pending([]byte(s)) {
			t.Errorf("%q is pending, though it doesn't begin with a sequence's begin", s)
		}
	}
}

// P1, P4.1, P4.2: all pairs of bytes, and edges put together, up to four bytes, cut at every place.
func TestEdgeBytes(t *testing.T) {
	for x := range 1 << 16 {
		b := []byte{byte(x >> 8), byte(x)}
		checkAll(t, b[1:])
		checkAll(t, b)
		checkFeed(t, nil, b)
		checkFeed(t, b[:1], b[1:])
	}
	for _, p := range edgeBytes {
		for _, q := range edgeBytes {
			for _, r := range edgeBytes {
				checkAll(t, []byte{p, q, r})
				checkFeed(t, []byte{p, q}, []byte{r})
				if t.Failed() {
					return
				}
				for _, s := range edgeBytes {
					b := []byte{p, q, r, s}
					if got, want := All(b), wantRunes(b); !slices.Equal(got, want) {
						t.Fatalf("All(%x) = %x, want %x", b, got, want)
					}
					for cut := range 5 {
						checkFeed(t, b[:cut], b[cut:])
					}
				}
			}
		}
	}
}

// P4.2, the chapter's example, and others written out.
func TestFeedWritten(t *testing.T) {
	for _, c := range []struct {
		pend, chunk string
		want        []rune
		left        string
	}{
		{"", "", nil, ""},
		{"", "a", []rune{'a'}, ""},
		{"", "\xE2", nil, "\xE2"},
		{"\xE2", "\x82\xAC", []rune{0x20AC}, ""},
		{"\xE2", "\x82", nil, "\xE2\x82"},
		{"\xE2\x82", "\xAC", []rune{0x20AC}, ""},
		{"\xC3", "\xA9", []rune{0xE9}, ""},
		{"\xF0\x9F\x98", "\x80", []rune{0x1F600}, ""},
		{"\xF0\x9F", "\x98", nil, "\xF0\x9F\x98"},
		{"\xF0", "\x9F\x98\x80\xF0", []rune{0x1F600}, "\xF0"},
		{"\xC3", "", nil, "\xC3"},
		{"\xE2\x82", "", nil, "\xE2\x82"},
		{"\xF0\x9F\x98", "", nil, "\xF0\x9F\x98"},
		{"\xE2", "\x82x\xE2\x82", []rune{bad, bad, 'x'}, "\xE2\x82"},
		{"\xE2\x82", "a", []rune{bad, bad, 'a'}, ""},
		{"\xF0\x9F\x98", "a", []rune{bad, bad, bad, 'a'}, ""},
		{"\xF0\x9F\x98", "\xC3", []rune{bad, bad, bad}, "\xC3"},
		{"\xE2", "\xE2", []rune{bad}, "\xE2"},
		{"\xF0", "\x8F", []rune{bad, bad}, ""},
		{"\xED", "\xA0", []rune{bad, bad}, ""},
		{"\xED", "\x9F", nil, "\xED\x9F"},
		{"\xE0", "\x9F", []rune{bad, bad}, ""},
		{"\xF4", "\x90", []rune{bad, bad}, ""},
		{"", "\xC1", []rune{bad}, ""},
		{"", "\xF5", []rune{bad}, ""},
		{"", "\x80", []rune{bad}, ""},
		{"", "abc\xF0\x9F\x98", []rune{'a', 'b', 'c'}, "\xF0\x9F\x98"},
		{"abc", "d", []rune{'a', 'b', 'c', 'd'}, ""},
		{"abc\xE2\x82", "\xACd", []rune{'a', 'b', 'c', 0x20AC, 'd'}, ""},
		{"abcd\xE2\x82", "", []rune{'a', 'b', 'c', 'd'}, "\xE2\x82"},
	} {
		l, p := Feed([]byte(c.pend), []byte(c.chunk))
		if !slices.Equal(l, c.want) || string(p) != c.left {
			t.Errorf("Feed(%q, %q) = %x, %q; want %x, %q", c.pend, c.chunk, l, p, c.want, c.left)
		}
	}
	for _, p := range [][]byte{nil, {}} {
		for _, c := range [][]byte{nil, {}} {
			if l, q := Feed(p, c); len(l) != 0 || len(q) != 0 {
				t.Errorf("of nothing: %x, %x", l, q)
			}
		}
	}
}

// P4.2: End tells what was pending byte by byte, as no chunk goes on with it.
func TestEndOfPending(t *testing.T) {
	for _, s := range []string{"\xC3", "\xE2\x82", "\xF0\x9F\x98"} {
		if got := End([]byte(s)); !slices.Equal(got, slices.Repeat([]rune{bad}, len(s))) {
			t.Errorf("End(%q) = %x", s, got)
		}
	}
}

// P4.3: bytes cut at every place, at every two places, byte by byte, and with chunks of nothing between.
func TestCutAnywhere(t *testing.T) {
	for _, b := range samples() {
		checkAll(t, b)
		checkChunks(t)
		checkChunks(t, b)
		checkChunks(t, single(b)...)
		for i := range len(b) + 1 {
			checkChunks(t, b[:i], b[i:])
			checkChunks(t, b[:i], nil, []byte{}, b[i:], nil)
			for j := i; j <= len(b); j++ {
				checkChunks(t, b[:i], b[i:j], b[j:])
			}
		}
	}
}

// P4.3: samples in one another's wake, and random bytes of which many are edges, in random chunks.
func TestRandomChunks(t *testing.T) {
	r := rand.New(rand.NewSource(4))
	for range 3000 {
		var b []byte
		for range r.Intn(12) {
			switch r.Intn(4) {
			case 0:
				b = append(b, samples()[r.Intn(len(samples()))]...)
			case 1:
				b = append(b, byte(r.Intn(256)))
			case 2:
				b = append(b, edgeBytes[r.Intn(len(edgeBytes))])
			case 3:
				b = append(b, string(rune(r.Intn(0x110000)))...)
			}
		}
		var chunks [][]byte
		for rest := b; len(rest) > 0; {
			n := min(len(rest), r.Intn(6))
			chunks, rest = append(chunks, rest[:n]), rest[n:]
		}
		checkChunks(t, chunks...)
	}
}

// P1, P4.2: a chunk of many bytes.
func TestManyBytes(t *testing.T) {
	b := bytes.Repeat([]byte("a€😀\xFF"), 100000)
	l, p := Feed([]byte("\xF0\x9F\x98"), append([]byte("\x80"), append(b, 0xF0, 0x9F)...))
	want := append([]rune{0x1F600}, slices.Repeat([]rune{'a', 0x20AC, 0x1F600, bad}, 100000)...)
	if !slices.Equal(l, want) || string(p) != "\xF0\x9F" {
		t.Errorf("%d runes, %x", len(l), p)
	}
}

// R3: what is handed in stays, also the room behind it, and what is told is the caller's own.
func TestFeedSharesNothing(t *testing.T) {
	room := []byte("\xF0\x9F\x98\x80a\xE2\x82x")
	was := bytes.Clone(room)
	l, p := Feed(room[:1], room[1:7])
	_, q := Feed(nil, room[5:7])
	_, s := Feed(room[5:7], nil)
	Feed(room[:2], room[4:])
	if !bytes.Equal(room, was) {
		t.Errorf("Feed wrote into what it was handed: %x", room)
	}
	clear(room)
	p = append(p, "much that goes behind it"...)
	clear(p)
	if !slices.Equal(l, []rune{0x1F600, 'a'}) || string(q) != "\xE2\x82" || string(s) != "\xE2\x82" {
		t.Errorf("an answer is shared: %x, %x, %x", l, q, s)
	}
	clear(q)
	if string(s) != "\xE2\x82" || !bytes.Equal(room, make([]byte, len(room))) {
		t.Errorf("an answer is shared: %x, %x", s, room)
	}
}

// R4: nothing is kept between calls.
func TestKeepsNothing(t *testing.T) {
	Feed(nil, []byte("\xE2\x82"))
	if l, p := Feed(nil, []byte("\xAC")); !slices.Equal(l, []rune{bad}) || len(p) != 0 {
		t.Errorf("%x, %x", l, p)
	}
}

// P1, P4.1, P4.2, P4.3
func FuzzFeed(f *testing.F) {
	for _, b := range samples() {
		f.Add(b, 1, 2)
	}
	f.Fuzz(func(t *testing.T, b []byte, i, j int) {
		i = int(uint(i) % uint(len(b)+1))
		j = i + int(uint(j)%uint(len(b)-i+1))
		checkAll(t, b)
		checkChunks(t, b[:i], b[i:j], b[j:])
		checkChunks(t, single(b)...)
	})
}
