package words

import (
	"math"
	"math/rand"
	"regexp"
	"slices"
	"strings"
	"testing"
	"unicode/utf8"

	"mantelet/api"
	"mantelet/fold"
)

var (
	stretch  = regexp.MustCompile(`L(?:M?L)*`)
	underWay = regexp.MustCompile(`(L(?:M?L)*)(M?)$`)
)

// classes are runes, each as one byte: L a letter, M a mark, and a dot.
func classes(l []rune) string {
	b := make([]byte, len(l))
	for i, c := range l {
		switch {
		case fold.Letter(c):
			b[i] = 'L'
		case c == 0x27 || c == 0x2019:
			b[i] = 'M'
		default:
			b[i] = '.'
		}
	}
	return string(b)
}

// wordOf is the word of a stretch.
func wordOf(l []rune) string {
	return strings.ReplaceAll(fold.Text(string(l)), "\u2019", "'")
}

// wantAll finds the stretches of the runes as a whole, where the program goes rune by rune.
func wantAll(l []rune) []string {
	var all []string
	for _, at := range stretch.FindAllStringIndex(classes(l), -1) {
		if at[1]-at[0] <= 32 {
			all = append(all, wordOf(l[at[0]:at[1]]))
		}
	}
	return all
}

// wantState is what is under way behind all these runes.
func wantState(l []rune) State {
	at := underWay.FindStringSubmatchIndex(classes(l))
	if at == nil {
		return State{}
	}
	s := State{Mark: at[4] < at[5]}
	if at[3]-at[2] > 32 {
		s.Long = true
	} else {
		s.Word = []rune(wordOf(l[at[2]:at[3]]))
	}
	return s
}

// wantTold are the words of the stretches that ended within these runes, and not behind them.
func wantTold(l []rune) []string {
	all := wantAll(l)
	if len(wantState(l).Word) > 0 {
		all = all[:len(all)-1]
	}
	return all
}

func same(a, b State) bool {
	return slices.Equal(a.Word, b.Word) && a.Mark == b.Mark && a.Long == b.Long
}

// checkAll is P6.1 and P6.3 of runes.
func checkAll(t *testing.T, l []rune) {
	t.Helper()
	was := slices.Clone(l)
	got, want := All(l), wantAll(l)
	if !slices.Equal(got, want) {
		t.Errorf("All(%q) = %q, want %q", l, got, want)
	}
	if !slices.Equal(l, was) {
		t.Errorf("%q was turned", was)
	}
	for _, w := range got {
		if again := All([]rune(w)); len(again) != 1 || again[0] != w {
			t.Errorf("%q of %q is made of %q", w, l, again)
		}
		if n := utf8.RuneCountInString(w); fold.Text(w) != w || n < 1 || n > 32 || !utf8.ValidString(w) {
			t.Errorf("%q of %q is no word", w, l)
		}
	}
}

// checkPieces is P6.2 and P6.3 of runes that come in pieces; a State is asked about behind each of them.
func checkPieces(t *testing.T, pieces [][]rune) {
	t.Helper()
	var s State
	var told []string
	var l []rune
	for _, p := range pieces {
		was, state := slices.Clone(p), State{slices.Clone(s.Word), s.Mark, s.Long}
		more, next := Feed(s, p)
		if !slices.Equal(p, was) || !same(s, state) {
			t.Errorf("%q or %v was turned", was, state)
		}
		told, l, s = append(told, more...), append(l, p...), next
		if want := wantTold(l); !slices.Equal(told, want) {
			t.Errorf("pieces %q: told %q, want %q", pieces, told, want)
		}
		if want := wantState(l); !same(s, want) {
			t.Errorf("pieces %q: %v behind %q, want %v", pieces, s, l, want)
		}
		if got, want := append(slices.Clone(told), End(s)...), wantAll(l); !slices.Equal(got, want) {
			t.Errorf("pieces %q: in all %q, want %q", pieces, got, want)
		}
	}
}

// checkCuts parts runes rune by rune, and in two at every place, with a piece of no runes between.
func checkCuts(t *testing.T, l []rune) {
	t.Helper()
	checkAll(t, l)
	var single [][]rune
	for at, c := range l {
		single = append(single, []rune{c})
		checkPieces(t, [][]rune{l[:at], nil, l[at:], {}})
	}
	checkPieces(t, single)
	checkPieces(t, [][]rune{nil, l})
}

// xs are that many letters.
func xs(n int) string { return strings.Repeat("x", n) }

// marked is a stretch of n runes, which has a mark between every two letters; if n is even, the last two are letters.
func marked(n int) string {
	return strings.Repeat("y'", n/2-1) + "yy"[:2-n%2] + strings.Repeat("'z", n%2)
}

// written are runes as texts, and their words.
var written = []struct {
	text string
	want []string
}{
	{"", nil},
	{"a", []string{"a"}},
	{"Don't stop", []string{"don't", "stop"}},
	{"DON’T STOP", []string{"don't", "stop"}},
	{"'", nil},
	{"''", nil},
	{"’'’ ' ’", nil},
	{"'a", []string{"a"}},
	{"’a", []string{"a"}},
	{"''a", []string{"a"}},
	{"a'", []string{"a"}},
	{"a’", []string{"a"}},
	{"a''", []string{"a"}},
	{"a'b", []string{"a'b"}},
	{"a''b", []string{"a", "b"}},
	{"a'’b", []string{"a", "b"}},
	{"a'''b", []string{"a", "b"}},
	{"a' 'b", []string{"a", "b"}},
	{"a'-b", []string{"a", "b"}},
	{"a'b'c", []string{"a'b'c"}},
	{"a'b''c'd", []string{"a'b", "c'd"}},
	{"'a'b'", []string{"a'b"}},
	{"'tis rock’n’roll", []string{"tis", "rock'n'roll"}},
	{"x2y_z", []string{"x", "y", "z"}},
	{"a-b.c\nd\te", []string{"a", "b", "c", "d", "e"}},
	{"a a A", []string{"a", "a", "a"}},
	{"×a÷", []string{"a"}},
	{"ÄÖ-Σας Ÿ ЁЖ", []string{"äö", "σασ", "ÿ", "ёж"}},
	{"İI", []string{"İi"}},
	{"a‘b", []string{"a", "b"}},
	{"a\u0301b", []string{"a", "b"}},
	{"\uFFFDa\uFFFD", []string{"a"}},
	{"中a文", []string{"a"}},
	{xs(31), []string{xs(31)}},
	{xs(32), []string{xs(32)}},
	{xs(33), nil},
	{xs(34), nil},
	{xs(200), nil},
	{xs(32) + "'", []string{xs(32)}},
	{xs(32) + "''", []string{xs(32)}},
	{xs(32) + "''c", []string{xs(32), "c"}},
	{xs(32) + "'c", nil},
	{xs(32) + "'c d", []string{"d"}},
	{xs(31) + "'", []string{xs(31)}},
	{xs(31) + "'c", nil},
	{xs(30) + "'c", []string{xs(30) + "'c"}},
	{"a'" + xs(30), []string{"a'" + xs(30)}},
	{"a’" + xs(31), nil},
	{"'" + xs(32), []string{xs(32)}},
	{"'" + xs(33), nil},
	{xs(33) + "'", nil},
	{xs(33) + "' a", []string{"a"}},
	{xs(33) + "''a", []string{"a"}},
	{xs(33) + "'a b", []string{"b"}},
	{xs(33) + " " + xs(32), []string{xs(32)}},
	{strings.Repeat("Ж", 32), []string{strings.Repeat("ж", 32)}},
	{strings.Repeat("Ж", 33), nil},
	{strings.Repeat("y'", 15) + "yy", []string{strings.Repeat("y'", 15) + "yy"}},
	{strings.Repeat("y’", 15) + "yy", []string{strings.Repeat("y'", 15) + "yy"}},
	{strings.Repeat("y'", 16), []string{strings.Repeat("y'", 15) + "y"}},
	{strings.Repeat("y'", 16) + "y", nil},
	{strings.Repeat("y'", 50) + " a'b", []string{"a'b"}},
}

// P6.1, P6.2, P6.3: cases written out, and each of them cut at every place.
func TestWritten(t *testing.T) {
	for _, c := range written {
		l := []rune(c.text)
		if got := All(l); !slices.Equal(got, c.want) {
			t.Errorf("All(%q) = %q, want %q", c.text, got, c.want)
		}
		checkCuts(t, l)
	}
}

// P6.1: no runes, however they are told.
func TestNothing(t *testing.T) {
	for _, l := range [][]rune{nil, {}} {
		told, s := Feed(State{}, l)
		if len(All(l)) != 0 || len(told) != 0 || !same(s, State{}) {
			t.Errorf("of nothing: %q, %q, %v", All(l), told, s)
		}
	}
	if len(End(State{})) != 0 || len(End(State{Word: []rune{}})) != 0 {
		t.Error("words of no State")
	}
}

// P6.2: what Feed tells, and the State behind it, written out step by step.
func TestStatesWritten(t *testing.T) {
	var s State
	for i, c := range []struct {
		piece string
		told  []string
		want  State
	}{
		{"'", nil, State{}},
		{"", nil, State{}},
		{"A", nil, State{Word: []rune{'a'}}},
		{"", nil, State{Word: []rune{'a'}}},
		{"’", nil, State{Word: []rune{'a'}, Mark: true}},
		{"", nil, State{Word: []rune{'a'}, Mark: true}},
		{"Bc", nil, State{Word: []rune{'a', 0x27, 'b', 'c'}}},
		{"'", nil, State{Word: []rune{'a', 0x27, 'b', 'c'}, Mark: true}},
		{"'", []string{"a'bc"}, State{}},
		{"'", nil, State{}},
		{"d' e'", []string{"d"}, State{Word: []rune{'e'}, Mark: true}},
		{" ", []string{"e"}, State{}},
		{xs(31), nil, State{Word: []rune(xs(31))}},
		{"'", nil, State{Word: []rune(xs(31)), Mark: true}},
		{"x", nil, State{Long: true}},
		{"'", nil, State{Mark: true, Long: true}},
		{"", nil, State{Mark: true, Long: true}},
		{"x", nil, State{Long: true}},
		{".", nil, State{}},
		{xs(32), nil, State{Word: []rune(xs(32))}},
		{"'", nil, State{Word: []rune(xs(32)), Mark: true}},
		{"' f", []string{xs(32)}, State{Word: []rune{'f'}}},
		{xs(31), nil, State{Word: []rune("f" + xs(31))}},
		{"x", nil, State{Long: true}},
		{"''", nil, State{}},
		{"g", nil, State{Word: []rune{'g'}}},
	} {
		var told []string
		told, s = Feed(s, []rune(c.piece))
		if !slices.Equal(told, c.told) || !same(s, c.want) {
			t.Errorf("step %d, %q: %q, %v, want %q, %v", i, c.piece, told, s, c.told, c.want)
		}
	}
	if got := End(s); !slices.Equal(got, []string{"g"}) {
		t.Errorf("at the end: %q", got)
	}
}

// P6.2: what End tells of each kind of State.
func TestEndWritten(t *testing.T) {
	for _, c := range []struct {
		s    State
		want []string
	}{
		{State{Word: []rune{'a'}}, []string{"a"}},
		{State{Word: []rune{'a'}, Mark: true}, []string{"a"}},
		{State{Word: []rune{'a', 0x27, 0x44F}}, []string{"a'я"}},
		{State{Word: []rune(xs(32))}, []string{xs(32)}},
		{State{Word: []rune(xs(32)), Mark: true}, []string{xs(32)}},
		{State{Long: true}, nil},
		{State{Mark: true, Long: true}, nil},
	} {
		if got := End(c.s); !slices.Equal(got, c.want) {
			t.Errorf("End(%v) = %q, want %q", c.s, got, c.want)
		}
	}
}

// P6.1, P6.2: stretches of every length near 32, with marks at every place or many, cut at every place.
func TestLengths(t *testing.T) {
	for n := 30; n <= 36; n++ {
		checkCuts(t, []rune(xs(n)))
		checkCuts(t, []rune(strings.ToUpper(marked(n))))
		checkCuts(t, []rune("'"+xs(n)+"'' A'"))
		for at := range n {
			l := []rune(xs(n))
			l[at] = 0x2019
			checkCuts(t, append(l, ' ', 'b'))
			l[at] = ' '
			checkCuts(t, l)
		}
	}
}

// P6.2: a stretch of 33 and more runes, with its States at the cuts that the limit makes.
func TestCutsAtTheLimit(t *testing.T) {
	for _, text := range []string{xs(40), marked(40), xs(31) + "'" + xs(8), xs(32) + "'" + xs(8), xs(33) + "’" + xs(8)} {
		l := []rune(text)
		for _, at := range []int{31, 32, 33, 34} {
			_, s := Feed(State{}, l[:at])
			if want := wantState(l[:at]); !same(s, want) {
				t.Errorf("%q cut at %d: %v, want %v", text, at, s, want)
			}
			told, s := Feed(s, append(slices.Clone(l[at:]), '.', 'k'))
			if len(told) != 0 || !same(s, State{Word: []rune{'k'}}) {
				t.Errorf("%q cut at %d: %q, %v", text, at, told, s)
			}
		}
	}
}

// P1, P6.1: every code point, and numbers that are none, between two letters.
func TestEveryRune(t *testing.T) {
	for c := rune(-0x100); c <= 0x110100; c++ {
		want := []string{"a", "b"}
		switch {
		case fold.Letter(c):
			want = []string{"a" + string(fold.Fold(c)) + "b"}
		case fold.Mark(c):
			want = []string{"a'b"}
		}
		if got := All([]rune{'A', c, 'B'}); !slices.Equal(got, want) {
			t.Fatalf("A, %x, B: %q, want %q", c, got, want)
		}
	}
	for _, c := range []rune{math.MinInt32, math.MinInt32 + 'a', -0x27, -'a', -1, 0xD800, 0xDFFF, 0xFFFD, 0x10FFFF, 0x110000, 0x110000 + 'a', 1<<30 + 'a', math.MaxInt32} {
		checkCuts(t, []rune{c})
		checkCuts(t, []rune{c, 'a', c, 0x27, 'b', 0x27, c, c, 'c', c})
		if got := All([]rune{c, 'a', c}); !slices.Equal(got, []string{"a"}) {
			t.Errorf("%x: %q", c, got)
		}
	}
}

// pick is one of some runes that matter, letters more often.
func pick(r *rand.Rand) rune {
	const few = "aaaaaaaabcXYZ''’’. 1ÄσςΣЖё÷×\uFFFD中"
	l := []rune(few)
	switch r.Intn(30) {
	case 0:
		return rune(r.Intn(0x500))
	case 1:
		return rune(r.Uint32())
	}
	return l[r.Intn(len(l))]
}

// some are that many runes; steady ones have a rune that is no letter but seldom, so that stretches grow long.
func some(r *rand.Rand, n int, steady bool) []rune {
	l := make([]rune, n)
	for i := range l {
		l[i] = pick(r)
		if steady && r.Intn(20) > 0 {
			l[i] = 'Q'
			if i > 0 && l[i-1] == 'Q' && r.Intn(5) == 0 {
				l[i] = 0x27
			}
		}
	}
	return l
}

// part cuts runes at random places, also twice at one.
func part(r *rand.Rand, l []rune) [][]rune {
	var pieces [][]rune
	for len(l) > 0 {
		n := r.Intn(min(len(l), 1+r.Intn(40)) + 1)
		pieces, l = append(pieces, l[:n]), l[n:]
	}
	return pieces
}

// P6.1, P6.2, P6.3: random runes, in random pieces.
func TestRandom(t *testing.T) {
	r := rand.New(rand.NewSource(6))
	for i := range 3000 {
		l := some(r, r.Intn(120), i%2 == 0)
		checkAll(t, l)
		checkPieces(t, part(r, l))
		checkPieces(t, part(r, l))
		if t.Failed() {
			return
		}
	}
}

// P6.1, P6.2: all texts of up to seven of three runes, cut at every place.
func TestEveryShortText(t *testing.T) {
	of := []rune{'A', 0x2019, '.'}
	for n, count := 0, 1; n <= 7; n, count = n+1, count*3 {
		for x := range count {
			l := make([]rune, n)
			for i := range l {
				l[i], x = of[x%3], x/3
			}
			checkCuts(t, l)
		}
	}
}

// P1, P6.1: very many runes, as one stretch and as many.
func TestMany(t *testing.T) {
	l := []rune(strings.Repeat("Q", 1<<20) + " " + strings.Repeat("b'c ", 1<<17))
	all := All(l)
	if len(all) != 1<<17 || slices.ContainsFunc(all, func(w string) bool { return w != "b'c" }) {
		t.Errorf("%d words", len(all))
	}
	if told, s := Feed(State{}, l[:1<<20]); len(told) != 0 || len(s.Word) != 0 || cap(s.Word) > 1<<10 || !s.Long {
		t.Errorf("%q, %d runes", told, len(s.Word))
	}
}

// P6.2: what is told is the caller's own: two goings-on of one State don't meet, nor does a State's change reach another one.
func TestSharesNothing(t *testing.T) {
	word := make([]rune, 2, 64)
	copy(word, []rune{'a', 'b'})
	s := State{Word: word}
	_, one := Feed(s, []rune{'c'})
	_, two := Feed(s, []rune{'d', 0x27, 'e'})
	_, three := Feed(s, nil)
	if string(one.Word) != "abc" || string(two.Word) != "abd'e" || string(three.Word) != "ab" {
		t.Errorf("%q, %q, %q", string(one.Word), string(two.Word), string(three.Word))
	}
	if rest := word[:64]; slices.ContainsFunc(rest[2:], func(c rune) bool { return c != 0 }) {
		t.Errorf("runes were laid behind a State's: %q", rest)
	}
	three.Word[0], one.Word[1] = 'z', 'z'
	if string(s.Word) != "ab" || string(two.Word) != "abd'e" {
		t.Errorf("%q, %q", string(s.Word), string(two.Word))
	}
	_, four := Feed(two, []rune{'f'})
	_, five := Feed(two, []rune{'g'})
	if string(four.Word) != "abd'ef" || string(five.Word) != "abd'eg" {
		t.Errorf("%q, %q", string(four.Word), string(five.Word))
	}
}

// P6.2: one call leaves nothing to the next one.
func TestKeepsNothing(t *testing.T) {
	Feed(State{}, []rune("left'"))
	Feed(State{Long: true}, []rune("behind"))
	All([]rune("quite"))
	if got := All([]rune("'a")); !slices.Equal(got, []string{"a"}) {
		t.Errorf("%q", got)
	}
	if told, s := Feed(State{}, []rune("'b")); len(told) != 0 || !same(s, State{Word: []rune{'b'}}) {
		t.Errorf("%q, %v", told, s)
	}
}

// P1: States that Feed never tells make no panic and no word of more than 32 runes, and what ends them is whatever ends a stretch.
func TestForgedStates(t *testing.T) {
	for _, s := range []State{
		{Mark: true},
		{Word: []rune(xs(33))},
		{Word: []rune(xs(1000)), Mark: true},
		{Word: []rune(xs(3)), Long: true},
		{Word: []rune(xs(3)), Mark: true, Long: true},
		{Word: []rune{' ', -1, math.MinInt32, 0x110000, 0xD800, 0x27, 0x2019, 'A'}},
		{Word: []rune{0x27}, Mark: true},
	} {
		for _, text := range []string{"", "a", "'", "'a", "''", "a'b", ".", xs(40) + "'"} {
			told, next := Feed(s, []rune(text))
			for _, w := range slices.Concat(told, End(next), End(s)) {
				if n := utf8.RuneCountInString(w); n < 1 || n > api.MaxWord || !utf8.ValidString(w) {
					t.Errorf("%v, %q: %q", s, text, w)
				}
			}
			told, next = Feed(s, []rune(text+". b"))
			if !same(next, State{Word: []rune{'b'}}) {
				t.Errorf("%v, %q: %v behind it, told %q", s, text, next, told)
			}
		}
	}
	if told, s := Feed(State{Mark: true}, []rune{'a'}); len(told) != 0 || !same(s, State{Word: []rune{'a'}}) {
		t.Errorf("a mark behind no letter: %q, %v", told, s)
	}
}

// P1, P6.1, P6.2, P6.3
func FuzzFeed(f *testing.F) {
	for i, c := range written {
		f.Add(c.text, uint16(i*977))
	}
	f.Fuzz(func(t *testing.T, text string, seed uint16) {
		l := []rune(text)
		if len(l) > 300 {
			l = l[:300]
		}
		checkAll(t, l)
		checkPieces(t, part(rand.New(rand.NewSource(int64(seed))), l))
	})
}
