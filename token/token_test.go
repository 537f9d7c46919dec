package token

import (
	"bytes"
	"encoding/binary"
	"math"
	"math/rand"
	"slices"
	"strings"
	"testing"
	"unicode/utf8"

	"mantelet/api"
	"mantelet/utf"
	"mantelet/words"
)

func same(a, b State) bool {
	return bytes.Equal(a.Pend, b.Pend) && slices.Equal(a.Under.Word, b.Under.Word) && a.Under.Mark == b.Under.Mark && a.Under.Long == b.Under.Long
}

func clone(s State) State {
	return State{bytes.Clone(s.Pend), words.State{Word: slices.Clone(s.Under.Word), Mark: s.Under.Mark, Long: s.Under.Long}}
}

// wantState is what is pending and under way behind all these bytes, and the words told up to there.
func wantState(b []byte) ([]string, State) {
	at := len(b)
	for n := 1; n <= min(3, len(b)); n++ {
		if utf.Pending(b[len(b)-n:]) {
			at = len(b) - n
		}
	}
	told, under := words.Feed(words.State{}, utf.All(b[:at]))
	return told, State{b[at:], under}
}

// wantPut lays a State down by the library's own numbers.
func wantPut(s State) []byte {
	b := binary.AppendUvarint(nil, uint64(len(s.Pend)))
	b = append(b, s.Pend...)
	b = binary.AppendUvarint(b, uint64(len(s.Under.Word)))
	for _, c := range s.Under.Word {
		b = binary.AppendUvarint(b, uint64(max(int64(c), 0)))
	}
	last := byte(0)
	if s.Under.Mark {
		last++
	}
	if s.Under.Long {
		last += 2
	}
	return append(b, last)
}

// wantGet reads by the library's own numbers, however they are laid down, and then asks whether the State's Put is what was read.
func wantGet(b []byte) (State, api.Errno) {
	var s State
	rest := b
	number := func() uint64 {
		n, size := binary.Uvarint(rest)
		if size <= 0 {
			rest = nil
			return math.MaxUint64
		}
		rest = rest[size:]
		return n
	}
	n := number()
	if n > 3 || n > uint64(len(rest)) {
		return State{}, api.ErrForm
	}
	s.Pend, rest = rest[:n], rest[n:]
	if n > 0 && !utf.Pending(s.Pend) {
		return State{}, api.ErrForm
	}
	n = number()
	if n > 32 {
		return State{}, api.ErrForm
	}
	for range n {
		c := number()
		if c > 1114111 {
			return State{}, api.ErrForm
		}
		s.Under.Word = append(s.Under.Word, rune(c))
	}
	if len(rest) == 0 {
		return State{}, api.ErrForm
	}
	s.Under.Mark, s.Under.Long = rest[0]&1 == 1, rest[0]&2 == 2
	if !bytes.Equal(wantPut(s), b) {
		return State{}, api.ErrForm
	}
	return s, api.OK
}

// checkGet is P7.2 of any bytes.
func checkGet(t *testing.T, b []byte) {
	t.Helper()
	was := bytes.Clone(b)
	want, wantErr := wantGet(b)
	got, err := Get(b)
	if !same(got, want) || err != wantErr {
		t.Errorf("Get(%x) = %v, %d; want %v, %d", b, got, err, want, wantErr)
	}
	if err != api.OK && (got.Pend != nil || got.Under.Word != nil) {
		t.Errorf("Get(%x) tells %v beside an error", b, got)
	}
	if !bytes.Equal(b, was) {
		t.Errorf("Get turned %x", was)
	}
	if err == api.OK && !bytes.Equal(Put(got), b) {
		t.Errorf("Get(%x) is put as %x", b, Put(got))
	}
}

// checkForm is that bytes are no State's.
func checkForm(t *testing.T, b []byte) {
	t.Helper()
	if s, err := Get(b); err != api.ErrForm || !same(s, State{}) {
		t.Errorf("Get(%x) = %v, %d, want ErrForm", b, s, err)
	}
	checkGet(t, b)
}

// checkRound is P7.2 of a State that may be: it is got as it was put, and nothing less or more is it.
func checkRound(t *testing.T, s State) {
	t.Helper()
	was := clone(s)
	b := Put(s)
	if want := wantPut(s); !bytes.Equal(b, want) {
		t.Errorf("Put(%v) = %x, want %x", s, b, want)
	}
	if !same(s, was) {
		t.Errorf("Put turned %v", was)
	}
	if got, err := Get(b); !same(got, s) || err != api.OK {
		t.Errorf("Get of Put of %v = %v, %d", s, got, err)
	}
	for at := range b {
		checkForm(t, b[:at])
	}
	for _, more := range []byte{0, 1, 3, 'a', 0x80, 0xFF} {
		checkForm(t, append(bytes.Clone(b), more))
	}
}

// checkChunks is P7.1 and P7.3 of bytes that come in chunks; each State is put and got, and asked about.
func checkChunks(t *testing.T, chunks ...[]byte) {
	t.Helper()
	var s State
	var told []string
	var all []byte
	for _, chunk := range chunks {
		wasChunk, wasState := bytes.Clone(chunk), clone(s)
		more, next := Feed(s, chunk)
		if !bytes.Equal(chunk, wasChunk) || !same(s, wasState) {
			t.Errorf("%x or %v was turned", wasChunk, wasState)
		}
		got, err := Get(Put(next))
		if !same(got, next) || err != api.OK {
			t.Errorf("chunks %q: %v is got as %v, %d", chunks, next, got, err)
		}
		told, all, s = append(told, more...), append(all, chunk...), got
		wantTold, want := wantState(all)
		if !slices.Equal(told, wantTold) || !same(s, want) {
			t.Errorf("chunks %q: %q, %v behind %q; want %q, %v", chunks, told, s, all, wantTold, want)
		}
		if got, want := append(slices.Clone(told), End(s)...), words.All(utf.All(all)); !slices.Equal(got, want) {
			t.Errorf("chunks %q: in all %q, want %q", chunks, got, want)
		}
	}
}

// checkCuts parts bytes byte by byte, and in two and in three at every place, with chunks of no bytes between.
func checkCuts(t *testing.T, b []byte) {
	t.Helper()
	var single [][]byte
	for at := range len(b) + 1 {
		checkChunks(t, nil, b[:at], []byte{}, nil, b[at:], nil)
		if at < len(b) {
			single = append(single, b[at:at+1])
		}
		for next := at; next <= min(len(b), at+4); next++ {
			checkChunks(t, b[:at], b[at:next], b[next:])
		}
	}
	checkChunks(t, single...)
}

func xs(n int) string { return strings.Repeat("x", n) }

// written are bytes, and their words.
var written = []struct {
	text string
	want []string
}{
	{"", nil},
	{"a", []string{"a"}},
	{"A b\nC", []string{"a", "b", "c"}},
	{"Don’t", []string{"don't"}},
	{"Don't stop", []string{"don't", "stop"}},
	{"’", nil},
	{"’a’", []string{"a"}},
	{"a’’b", []string{"a", "b"}},
	{"a'’b", []string{"a", "b"}},
	{"a’b’c’", []string{"a'b'c"}},
	{"ÄΣ Žižek", []string{"äσ", "žižek"}},
	{"Größe’s 2 ÄÖ'x\xE2\x82 end", []string{"größe's", "äö'x", "end"}},
	{"a\xE2\x80", []string{"a"}},
	{"a\xE2", []string{"a"}},
	{"a\xC3", []string{"a"}},
	{"a\xF0\x9F\x98", []string{"a"}},
	{"a'\xE2", []string{"a"}},
	{"\xC3", nil},
	{"\xE2\x80", nil},
	{"a\xE2\x80b", []string{"a", "b"}},
	{"a\xE2\x99b", []string{"a", "b"}},
	{"a\xE2\x80\xE2\x80\x99b", []string{"a", "b"}},
	{"a\xFFb", []string{"a", "b"}},
	{"a\xC3\xC3\xA9", []string{"a", "é"}},
	{"\xA9a\x99b", []string{"a", "b"}},
	{"a😀b", []string{"a", "b"}},
	{"a\xEF\xBF\xBDb", []string{"a", "b"}},
	{"a\x00b", []string{"a", "b"}},
	{"a\xED\xA0\x80b", []string{"a", "b"}},
	{"\xC1\x81 \xC1A", []string{"a"}},
	{xs(32), []string{xs(32)}},
	{xs(33), nil},
	{xs(32) + "’", []string{xs(32)}},
	{xs(32) + "’x", nil},
	{xs(33) + "’x y", []string{"y"}},
	{xs(33) + "’’y", []string{"y"}},
	{xs(32) + "\xC3", []string{xs(32)}},
	{xs(33) + "\xC3", nil},
	{strings.Repeat("Ж", 32) + " b", []string{strings.Repeat("ж", 32), "b"}},
	{strings.Repeat("Ж", 33) + " b", []string{"b"}},
	{strings.Repeat("é’", 15) + "éé", []string{strings.Repeat("é'", 15) + "éé"}},
	{strings.Repeat("é’", 16) + "é", nil},
}

// P7.1, P7.3: words that are written out, and the same in chunks that are cut everywhere.
func TestWritten(t *testing.T) {
	for _, c := range written {
		b := []byte(c.text)
		if got := All(b); !slices.Equal(got, c.want) {
			t.Errorf("All(%q) = %q, want %q", c.text, got, c.want)
		}
		if string(b) != c.text {
			t.Errorf("All turned %q", c.text)
		}
		checkCuts(t, b)
	}
}

// P7.1: the chapter's example, in all chunks that part the mark's bytes.
func TestMarkParted(t *testing.T) {
	for _, chunks := range [][]string{
		{"Don\xE2", "\x80", "\x99t"},
		{"Don\xE2\x80", "\x99", "t"},
		{"Don", "\xE2", "\x80\x99t"},
		{"Don\xE2", "\x80\x99", "t"},
		{"Don", "\xE2\x80", "\x99t"},
	} {
		var s State
		var told []string
		for _, c := range chunks {
			var more []string
			more, s = Feed(s, []byte(c))
			told = append(told, more...)
		}
		if len(told) != 0 || !same(s, State{Under: words.State{Word: []rune("don't")}}) {
			t.Errorf("%q: %q, %v", chunks, told, s)
		}
		if got := End(s); !slices.Equal(got, []string{"don't"}) {
			t.Errorf("%q: %q", chunks, got)
		}
	}
}

// P7.1: what Feed tells, and the State behind it, written out step by step.
func TestStatesWritten(t *testing.T) {
	var s State
	for i, c := range []struct {
		chunk string
		told  []string
		pend  string
		under words.State
	}{
		{"", nil, "", words.State{}},
		{"\xC3", nil, "\xC3", words.State{}},
		{"", nil, "\xC3", words.State{}},
		{"\x84", nil, "", words.State{Word: []rune{0xE4}}},
		{"\xE2", nil, "\xE2", words.State{Word: []rune{0xE4}}},
		{"\x80", nil, "\xE2\x80", words.State{Word: []rune{0xE4}}},
		{"\x99", nil, "", words.State{Word: []rune{0xE4}, Mark: true}},
		{"\xE2\x80", nil, "\xE2\x80", words.State{Word: []rune{0xE4}, Mark: true}},
		{"B", []string{"ä"}, "", words.State{Word: []rune{'b'}}},
		{"'C\xF0\x9F\x98", nil, "\xF0\x9F\x98", words.State{Word: []rune{'b', 0x27, 'c'}}},
		{"\x80", []string{"b'c"}, "", words.State{}},
		{"'\xE2", nil, "\xE2", words.State{}},
		{"\x80\x99d e\xC3", []string{"d"}, "\xC3", words.State{Word: []rune{'e'}}},
		{"\xC3", []string{"e"}, "\xC3", words.State{}},
		{"\x9F" + xs(31), nil, "", words.State{Word: []rune("ß" + xs(31))}},
		{"'", nil, "", words.State{Word: []rune("ß" + xs(31)), Mark: true}},
		{"\xD0", nil, "\xD0", words.State{Word: []rune("ß" + xs(31)), Mark: true}},
		{"\x96\xE2", nil, "\xE2", words.State{Long: true}},
		{"\x80\x99", nil, "", words.State{Mark: true, Long: true}},
		{"z\xC3", nil, "\xC3", words.State{Long: true}},
		{" f", nil, "", words.State{Word: []rune{'f'}}},
		{"\xE2\x80", nil, "\xE2\x80", words.State{Word: []rune{'f'}}},
	} {
		told, next := Feed(s, []byte(c.chunk))
		want := State{[]byte(c.pend), c.under}
		if !slices.Equal(told, c.told) || !same(next, want) {
			t.Errorf("step %d, %q: %q, %v; want %q, %v", i, c.chunk, told, next, c.told, want)
		}
		checkRound(t, next)
		s = next
	}
	if got := End(s); !slices.Equal(got, []string{"f"}) {
		t.Errorf("at the end: %q", got)
	}
}

// P7.1: at the end pending bytes are runes that end what is under way, and a Pend that isn't pending is read as any bytes are.
func TestEndWritten(t *testing.T) {
	ab := words.State{Word: []rune{'a', 'b'}}
	for _, c := range []struct {
		s    State
		want []string
	}{
		{State{}, nil},
		{State{Under: ab}, []string{"ab"}},
		{State{Under: words.State{Word: []rune{'a'}, Mark: true}}, []string{"a"}},
		{State{Under: words.State{Long: true}}, nil},
		{State{Under: words.State{Long: true, Mark: true}}, nil},
		{State{Pend: []byte{0xE2, 0x82}}, nil},
		{State{Pend: []byte{0xC3}, Under: ab}, []string{"ab"}},
		{State{Pend: []byte{0xC3}, Under: words.State{Long: true}}, nil},
		{State{Pend: []byte("C"), Under: ab}, []string{"abc"}},
		{State{Pend: []byte(" C d"), Under: ab}, []string{"ab", "c", "d"}},
		{State{Pend: []byte("’c"), Under: ab}, []string{"ab'c"}},
		{State{Pend: []byte("c "), Under: words.State{Long: true}}, nil},
		{State{Pend: []byte(" c "), Under: words.State{Long: true}}, []string{"c"}},
	} {
		was := clone(c.s)
		if got := End(c.s); !slices.Equal(got, c.want) {
			t.Errorf("End(%v) = %q, want %q", c.s, got, c.want)
		}
		if !same(c.s, was) {
			t.Errorf("End turned %v", was)
		}
	}
}

// P1, P7.1: no bytes, however they are told.
func TestNothing(t *testing.T) {
	for _, b := range [][]byte{nil, {}} {
		told, s := Feed(State{Pend: b}, b)
		if len(All(b)) != 0 || len(told) != 0 || !same(s, State{}) || len(End(State{Pend: b})) != 0 {
			t.Errorf("of nothing: %q, %q, %v", All(b), told, s)
		}
	}
	for _, s := range []State{{}, {Pend: []byte{}, Under: words.State{Word: []rune{}}}} {
		if got := Put(s); !bytes.Equal(got, []byte{0, 0, 0}) {
			t.Errorf("nothing is put as %x", got)
		}
	}
}

// P7.2: Puts that are written out.
func TestPutWritten(t *testing.T) {
	for _, c := range []struct {
		s    State
		want []byte
	}{
		{State{}, []byte{0, 0, 0}},
		{State{Under: words.State{Mark: true}}, []byte{0, 0, 1}},
		{State{Under: words.State{Long: true}}, []byte{0, 0, 2}},
		{State{Under: words.State{Mark: true, Long: true}}, []byte{0, 0, 3}},
		{State{Pend: []byte{0xE2, 0x82}, Under: words.State{Word: []rune{'a', 0xE4}, Mark: true}}, []byte{2, 0xE2, 0x82, 2, 97, 228, 1, 1}},
		{State{Pend: []byte{0xF0, 0x9F, 0x98}, Under: words.State{Word: []rune{0x44F}, Long: true}}, []byte{3, 0xF0, 0x9F, 0x98, 1, 0xCF, 8, 2}},
		{State{Under: words.State{Word: []rune{0, 127, 128, 1114111}}}, []byte{0, 4, 0, 127, 128, 1, 255, 255, 67, 0}},
		{State{Under: words.State{Word: []rune{-1, math.MinInt32, -'a'}}}, []byte{0, 3, 0, 0, 0, 0}},
		{State{Under: words.State{Word: []rune{math.MaxInt32}}}, []byte{0, 1, 255, 255, 255, 255, 7, 0}},
		{State{Pend: []byte("abcde")}, []byte{5, 'a', 'b', 'c', 'd', 'e', 0, 0}},
	} {
		was := clone(c.s)
		if got := Put(c.s); !bytes.Equal(got, c.want) {
			t.Errorf("Put(%v) = %v, want %v", c.s, got, c.want)
		}
		if !same(c.s, was) {
			t.Errorf("Put turned %v", was)
		}
		checkGet(t, c.want)
	}
	long := State{Pend: bytes.Repeat([]byte{7}, 300), Under: words.State{Word: slices.Repeat([]rune{300}, 200)}}
	want := slices.Concat([]byte{172, 2}, long.Pend, []byte{200, 1}, bytes.Repeat([]byte{172, 2}, 200), []byte{0})
	if got := Put(long); !bytes.Equal(got, want) {
		t.Errorf("a long State is put as %x", got)
	}
	checkForm(t, want)
}

// P7.2: bytes that are a State's, and such that are none, written out.
func TestGetWritten(t *testing.T) {
	for _, b := range [][]byte{
		nil, {}, {0}, {0, 0}, {0, 0, 4}, {0, 0, 5}, {0, 0, 128}, {0, 0, 255}, {0, 0, 0, 0}, {0, 0, 128, 0}, {0, 0, 129, 0},
		{1, 97, 0, 0}, {1, 0x80, 0, 0}, {1, 0xC1, 0, 0}, {1, 0xF5, 0, 0}, {2, 0xC3, 0xA9, 0, 0}, {2, 0xE2, 'a', 0, 0}, {2, 'a', 0xC3, 0, 0},
		{2, 0xED, 0xA0, 0, 0}, {3, 0xE2, 0x82, 0xAC, 0, 0}, {4, 0xF0, 0x9F, 0x98, 0x80, 0, 0}, {4, 0xF0, 0x9F, 0x98, 0xF0, 0, 0},
		{1}, {1, 0xC3}, {1, 0xC3, 0}, {3, 0xF0, 0x9F}, {9, 1}, {128}, {128, 0, 0, 0}, {129, 0, 0xC3, 0, 0},
		{0, 1, 0}, {0, 1}, {0, 2, 97, 0}, {0, 33}, {0, 128, 0, 0}, {0, 1, 128, 0, 0}, {0, 1, 128}, {0, 1, 97},
		{0, 1, 128, 128, 68, 0}, {0, 1, 255, 255, 255, 255, 7, 0}, {0, 1, 255, 255, 255, 255, 15, 0},
		{255, 255, 255, 255, 255, 255, 255, 255, 255, 1}, {255, 255, 255, 255, 255, 255, 255, 255, 127, 0, 0},
		{255, 255, 255, 255, 255, 255, 255, 255, 255, 2, 0, 0}, {128, 128, 128, 128, 128, 128, 128, 128, 128, 1, 0, 0},
		{0, 255, 255, 255, 255, 255, 255, 255, 255, 255, 1, 0}, {0, 128, 128, 128, 128, 128, 128, 128, 128, 128, 1, 0},
		{0, 1, 255, 255, 255, 255, 255, 255, 255, 255, 255, 1, 0}, {0, 1, 225, 128, 128, 128, 16, 0}, {0, 1, 225, 128, 128, 128, 128, 128, 128, 128, 128, 1, 0},
		bytes.Repeat([]byte{128}, 40), bytes.Repeat([]byte{255}, 40),
	} {
		checkForm(t, b)
	}
	for _, s := range []State{
		{},
		{Under: words.State{Mark: true}},
		{Under: words.State{Mark: true, Long: true}},
		{Under: words.State{Word: []rune{'a'}, Mark: true, Long: true}},
		{Pend: []byte{0xC3}},
		{Pend: []byte{0xE2, 0x80}, Under: words.State{Word: []rune{'a'}}},
		{Pend: []byte{0xF0, 0x9F, 0x98}, Under: words.State{Long: true}},
		{Under: words.State{Word: []rune{0, ' ', 0x27, 'A', 127, 128, 0x3FFF, 0x4000, 0xD800, 0xDFFF, 0xFFFD, 1114110, 1114111}}},
	} {
		checkRound(t, s)
	}
}

// P7.2: a last byte of every number.
func TestLastByte(t *testing.T) {
	for last := range 256 {
		b := []byte{1, 0xE2, 1, 'q', byte(last)}
		want := State{Pend: []byte{0xE2}, Under: words.State{Word: []rune{'q'}, Mark: last%2 == 1, Long: last/2 == 1}}
		if last > 3 {
			checkForm(t, b)
			continue
		}
		if s, err := Get(b); !same(s, want) || err != api.OK {
			t.Errorf("last byte %d: %v, %d", last, s, err)
		}
		checkRound(t, want)
	}
}

// P7.2: Words of up to 32 runes, and of more, and runes at the bound, first, in the midst and last.
func TestGetBounds(t *testing.T) {
	for n := range 40 {
		s := State{Under: words.State{Word: slices.Repeat([]rune{0x101}, n)}}
		if n > 32 {
			checkForm(t, Put(s))
			continue
		}
		checkRound(t, s)
		for at := range n {
			for _, c := range []rune{0, 1114111, 1114112, 1114113, 1 << 24, math.MaxInt32} {
				s.Under.Word[at] = c
				if c > 1114111 {
					checkForm(t, Put(s))
				} else {
					checkRound(t, s)
				}
			}
			s.Under.Word[at] = 0x101
		}
	}
	// What is put as 0 is got as 0.
	if s, err := Get(Put(State{Under: words.State{Word: []rune{-5}}})); err != api.OK || !same(s, State{Under: words.State{Word: []rune{0}}}) {
		t.Errorf("%v, %d", s, err)
	}
}

// P7.2: every Pend of one and two bytes, and three of edges.
func TestGetPend(t *testing.T) {
	ask := func(pend ...byte) {
		s := State{Pend: pend, Under: words.State{Word: []rune{'a'}}}
		got, err := Get(Put(s))
		if utf.Pending(pend) != (err == api.OK) || err == api.OK && !same(got, s) || err != api.OK && (err != api.ErrForm || !same(got, State{})) {
			t.Errorf("Pend %x: %v, %d", pend, got, err)
		}
	}
	edges := []byte{0, 'a', 0x7F, 0x80, 0x8F, 0x90, 0x9F, 0xA0, 0xBF, 0xC1, 0xC2, 0xDF, 0xE0, 0xE2, 0xED, 0xEF, 0xF0, 0xF1, 0xF4, 0xF5, 0xFF}
	for x := range 256 {
		ask(byte(x))
		for y := range 256 {
			ask(byte(x), byte(y))
		}
	}
	for _, x := range edges {
		for _, y := range edges {
			for _, z := range edges {
				ask(x, y, z)
				ask(x, y, z, 0x80)
			}
		}
	}
}

// P1, P7.2: all texts of up to five bytes, of some that matter.
func TestGetShort(t *testing.T) {
	of := []byte{0, 1, 2, 3, 4, 'a', 0x80, 0x81, 0xC3, 0xE2, 0xFF}
	for n, count := 0, 1; n <= 5; n, count = n+1, count*len(of) {
		b := make([]byte, n)
		for x := range count {
			for i := range b {
				b[i], x = of[x%len(of)], x/len(of)
			}
			checkGet(t, b)
			if t.Failed() {
				return
			}
		}
	}
}

// some are bytes of texts that matter, with such between that are no text.
func some(r *rand.Rand) []byte {
	of := []string{"a", "B", "’", "'", " ", "é", "Ж", "σ", "€", "😀", "\xE2", "\xE2\x80", "\xC3", "\x99", "\xF0\x9F", "\xFF", xs(5), xs(31), strings.Repeat("Y’", 15)}
	var b []byte
	for range r.Intn(15) {
		b = append(b, of[r.Intn(len(of))]...)
		if r.Intn(10) == 0 {
			b = append(b, byte(r.Intn(256)))
		}
	}
	return b
}

// part cuts bytes at random places, also twice at one.
func part(r *rand.Rand, b []byte) [][]byte {
	var chunks [][]byte
	for len(b) > 0 {
		n := min(len(b), r.Intn(1+r.Intn(12)))
		chunks, b = append(chunks, b[:n]), b[n:]
	}
	return chunks
}

// P7.1, P7.3: random bytes, in random chunks.
func TestRandomChunks(t *testing.T) {
	r := rand.New(rand.NewSource(7))
	for range 3000 {
		b := some(r)
		if got, want := All(b), words.All(utf.All(b)); !slices.Equal(got, want) {
			t.Errorf("All(%q) = %q, want %q", b, got, want)
		}
		checkChunks(t, part(r, b)...)
		checkChunks(t, part(r, b)...)
		if t.Failed() {
			return
		}
	}
}

// P1, P7.2: Puts with a byte turned, left out or laid between.
func TestGetTurned(t *testing.T) {
	r := rand.New(rand.NewSource(72))
	for range 500 {
		_, s := Feed(State{}, some(r))
		b := Put(s)
		for at := range b {
			for range 8 {
				turned := bytes.Clone(b)
				turned[at] = byte(r.Intn(256))
				checkGet(t, turned)
			}
			checkGet(t, slices.Delete(bytes.Clone(b), at, at+1))
			checkGet(t, slices.Insert(bytes.Clone(b), at, byte(r.Intn(256))))
		}
		if t.Failed() {
			return
		}
	}
}

// P1: States that Feed never tells.
func TestForgedStates(t *testing.T) {
	for _, s := range []State{
		{Pend: []byte("abc’d \xE2")},
		{Pend: bytes.Repeat([]byte{0xE2, 0x82}, 50), Under: words.State{Mark: true}},
		{Under: words.State{Word: []rune{-1, math.MinInt32, math.MaxInt32, 0xD800, 0x110000, ' '}}},
		{Pend: []byte{0xC3}, Under: words.State{Word: []rune(xs(100)), Mark: true, Long: true}},
	} {
		for _, chunk := range []string{"", "a", "\xA9", "’", "\x82\xAC b", xs(40)} {
			was := clone(s)
			runes, pend := utf.Feed(s.Pend, []byte(chunk))
			wantTold, under := words.Feed(s.Under, runes)
			told, next := Feed(s, []byte(chunk))
			if !slices.Equal(told, wantTold) || !same(next, State{pend, under}) {
				t.Errorf("%v, %q: %q, %v", s, chunk, told, next)
			}
			wantTold, under = words.Feed(next.Under, utf.End(next.Pend))
			if got, want := End(next), append(wantTold, words.End(under)...); !slices.Equal(got, want) {
				t.Errorf("%v, %q: %q at the end, want %q", s, chunk, got, want)
			}
			if !same(s, was) {
				t.Errorf("%v was turned", was)
			}
		}
		if got, want := Put(s), wantPut(s); !bytes.Equal(got, want) {
			t.Errorf("Put(%v) = %x, want %x", s, got, want)
		}
		checkForm(t, Put(s))
	}
}

// P1: very many bytes, and a State of very many runes, in a time that grows as they do.
func TestMany(t *testing.T) {
	b := []byte(strings.Repeat("Don’t ", 1<<17) + xs(1<<20))
	all := All(b)
	if len(all) != 1<<17 || slices.ContainsFunc(all, func(w string) bool { return w != "don't" }) {
		t.Errorf("%d words", len(all))
	}
	told, s := Feed(State{}, b)
	if len(told) != 1<<17 || !same(s, State{Under: words.State{Long: true}}) {
		t.Errorf("%d words, %v", len(told), s)
	}
	great := State{Pend: bytes.Repeat([]byte{0xE2}, 1<<20), Under: words.State{Word: slices.Repeat([]rune{math.MaxInt32}, 1<<20)}}
	if got := Put(great); !bytes.Equal(got, wantPut(great)) {
		t.Errorf("a great State is put as %d bytes", len(got))
	}
	checkForm(t, Put(great))
}

// R3: what is handed in stays, with the room behind it, and what is told is the caller's own.
func TestSharesNothing(t *testing.T) {
	room := []byte("\xE2\x80\x99\xE2\x80x")
	was := bytes.Clone(room)
	word := make([]rune, 1, 64)
	word[0] = 'a'
	s := State{Pend: room[:1], Under: words.State{Word: word}}
	_, one := Feed(s, []byte("\x80"))
	_, two := Feed(s, []byte("\x80\x99b"))
	_, three := Feed(s, nil)
	Put(s)
	End(s)
	if !bytes.Equal(room, was) || slices.ContainsFunc(word[:64][1:], func(c rune) bool { return c != 0 }) {
		t.Errorf("something was laid behind a State's: %x, %v", room, word[:64])
	}
	clear(room)
	clear(word)
	if !same(one, State{[]byte{0xE2, 0x80}, words.State{Word: []rune{'a'}}}) || !same(two, State{Under: words.State{Word: []rune("a'b")}}) || !same(three, State{[]byte{0xE2}, words.State{Word: []rune{'a'}}}) {
		t.Errorf("an answer is shared: %v, %v, %v", one, two, three)
	}
	b := Put(one)
	got, _ := Get(b)
	clear(b)
	if !same(got, one) {
		t.Errorf("what is got is shared with what was put: %v", got)
	}
	b = Put(one)
	clear(got.Pend)
	clear(got.Under.Word)
	if !bytes.Equal(b, wantPut(one)) {
		t.Errorf("%x", b)
	}
}

// R4: one call leaves nothing to the next one.
func TestKeepsNothing(t *testing.T) {
	Feed(State{}, []byte("left’\xE2\x80"))
	Get([]byte{1, 0xC3, 1, 'a', 3})
	if told, s := Feed(State{}, []byte("\x99b")); len(told) != 0 || !same(s, State{Under: words.State{Word: []rune{'b'}}}) {
		t.Errorf("%q, %v", told, s)
	}
	if s, err := Get([]byte{0, 0, 0}); err != api.OK || !same(s, State{}) {
		t.Errorf("%v, %d", s, err)
	}
}

// P1, P7.1, P7.3
func FuzzFeed(f *testing.F) {
	for i, c := range written {
		f.Add([]byte(c.text), uint16(i*977))
	}
	f.Fuzz(func(t *testing.T, b []byte, seed uint16) {
		b = b[:min(len(b), 300)]
		for _, w := range All(b) {
			if n := utf8.RuneCountInString(w); n < 1 || n > api.MaxWord || !utf8.ValidString(w) {
				t.Errorf("%q of %q is no word", w, b)
			}
		}
		checkChunks(t, part(rand.New(rand.NewSource(int64(seed))), b)...)
	})
}

// P1, P7.2
func FuzzGet(f *testing.F) {
	for _, c := range written {
		_, s := Feed(State{}, []byte(c.text))
		f.Add(Put(s))
	}
	f.Fuzz(checkGet)
}
