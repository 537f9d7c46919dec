package fold

import (
	"math"
	"math/rand"
	"strings"
	"testing"
	"unicode"
	"unicode/utf8"
)

// greats and smalls are all great letters but U+03C2, which is a small one elsewhere, and their small ones, written out.
const (
	greats = "ABCDEFGHIJKLMNOPQRSTUVWXYZ" +
		"ÀÁÂÃÄÅÆÇÈÉÊËÌÍÎÏÐÑÒÓÔÕÖØÙÚÛÜÝÞ" +
		"ĀĂĄĆĈĊČĎĐĒĔĖĘĚĜĞĠĢĤĦĨĪĬĮ" + "ĲĴĶ" + "ĹĻĽĿŁŃŅŇ" + "ŊŌŎŐŒŔŖŘŚŜŞŠŢŤŦŨŪŬŮŰŲŴŶ" + "Ÿ" + "ŹŻŽ" +
		"ΑΒΓΔΕΖΗΘΙΚΛΜΝΞΟΠΡ" + "ΣΤΥΦΧΨΩΪΫ" +
		"ЀЁЂЃЄЅІЇЈЉЊЋЌЍЎЏ" + "АБВГДЕЖЗИЙКЛМНОПРСТУФХЦЧШЩЪЫЬЭЮЯ"
	smalls = "abcdefghijklmnopqrstuvwxyz" +
		"àáâãäåæçèéêëìíîïðñòóôõöøùúûüýþ" +
		"āăąćĉċčďđēĕėęěĝğġģĥħĩīĭį" + "ĳĵķ" + "ĺļľŀłńņň" + "ŋōŏőœŕŗřśŝşšţťŧũūŭůűųŵŷ" + "ÿ" + "źżž" +
		"αβγδεζηθικλμνξοπρ" + "στυφχψωϊϋ" +
		"ѐёђѓєѕіїјљњћќѝўџ" + "абвгдежзийклмнопрстуфхцчшщъыьэюя"
)

// loners are the letters that are neither great nor a great one's small one.
var loners = []rune{0xDF, 0x130, 0x131, 0x138, 0x149, 0x17F, 0x3AC, 0x3AD, 0x3AE, 0x3AF, 0x3B0, 0x3CC, 0x3CD, 0x3CE}

// wantLetter is the chapter's sentence.
func wantLetter(c rune) bool {
	switch {
	case c == 0xD7, c == 0xF7, c == 0x3A2:
		return false
	case 0x41 <= c && c <= 0x5A, 0x61 <= c && c <= 0x7A, 0xC0 <= c && c <= 0x17F, 0x391 <= c && c <= 0x3CE, 0x400 <= c && c <= 0x45F:
		return true
	}
	return false
}

// wantFold is the chapter's table, row by row.
func wantFold(c rune) rune {
	switch {
	case 0x41 <= c && c <= 0x5A:
		return c + 0x20
	case 0xC0 <= c && c <= 0xDE && c != 0xD7:
		return c + 0x20
	case c%2 == 0 && (0x100 <= c && c <= 0x12E || 0x132 <= c && c <= 0x136 || 0x14A <= c && c <= 0x176):
		return c + 1
	case c%2 == 1 && (0x139 <= c && c <= 0x147 || 0x179 <= c && c <= 0x17D):
		return c + 1
	case c == 0x178:
		return 0xFF
	case 0x391 <= c && c <= 0x3A1, 0x3A3 <= c && c <= 0x3AB:
		return c + 0x20
	case c == 0x3C2:
		return 0x3C3
	case 0x400 <= c && c <= 0x40F:
		return c + 0x50
	case 0x410 <= c && c <= 0x42F:
		return c + 0x20
	}
	return c
}

// wantText goes on sequence by sequence, where the program ranges over the text.
func wantText(s string) string {
	var b []byte
	for len(s) > 0 {
		c, size := utf8.DecodeRuneInString(s)
		b, s = utf8.AppendRune(b, wantFold(c)), s[size:]
	}
	return string(b)
}

// edges are the first and the last code points of the chapter's spans.
var edges = []rune{
	0x41, 0x5A, 0x61, 0x7A, 0xC0, 0xD7, 0xDE, 0xF7, 0xFF, 0x100, 0x12E, 0x132, 0x136, 0x139, 0x147, 0x14A, 0x176, 0x178, 0x179, 0x17D, 0x17F,
	0x391, 0x3A1, 0x3A2, 0x3A3, 0x3AB, 0x3C2, 0x3CE, 0x400, 0x40F, 0x410, 0x42F, 0x45F,
	0x27, 0x2019, 0, 0x7F, 0x80, 0x7FF, 0x800, 0xD800, 0xDFFF, 0xFFFD, 0xFFFF, 0x10000, 0x10FFFF,
}

// strangers are numbers that are no code points.
var strangers = []rune{
	math.MinInt32, math.MinInt32 + 1, math.MinInt32 + 0x41, -0x10FFFF, -0x2019, -0x178, -0x100, -0x41, -0x27, -5, -2, -1,
	0x110000, 0x110041, 0x110178, 0x200041, 1<<30 + 0x41, math.MaxInt32 - 1, math.MaxInt32,
}

// checkRune is P5.1 and P5.3 of one number.
func checkRune(t *testing.T, c rune) {
	t.Helper()
	if got := Letter(c); got != wantLetter(c) {
		t.Errorf("Letter(%x) = %v", c, got)
	}
	if got := Mark(c); got != (c == 0x27 || c == 0x2019) {
		t.Errorf("Mark(%x) = %v", c, got)
	}
	f := Fold(c)
	if f != wantFold(c) {
		t.Errorf("Fold(%x) = %x, want %x", c, f, wantFold(c))
	}
	if again := Fold(f); again != f {
		t.Errorf("Fold(%x) = %x, and that of this one = %x", c, f, again)
	}
	if Letter(f) != Letter(c) || !Letter(c) && f != c {
		t.Errorf("Fold(%x) = %x: a letter, and none", c, f)
	}
	if Mark(c) && Letter(c) {
		t.Errorf("%x is a mark and a letter", c)
	}
}

// checkText is P5.2 and P5.3 of one text.
func checkText(t *testing.T, s string) {
	t.Helper()
	got, want := Text(s), wantText(s)
	if got != want {
		t.Errorf("Text(%q) = %q, want %q", s, got, want)
	}
	if again := Text(got); again != got {
		t.Errorf("Text(%q) = %q, and that of this one = %q", s, got, again)
	}
	if utf8.RuneCountInString(got) != utf8.RuneCountInString(s) || !utf8.ValidString(got) {
		t.Errorf("Text(%q) = %q has other runes than it folds", s, got)
	}
}

// P1, P5.1, P5.3: every code point, and numbers far out on both sides.
func TestEveryCodePoint(t *testing.T) {
	for c := rune(-0x1000); c <= 0x111000; c++ {
		checkRune(t, c)
		if t.Failed() {
			return
		}
	}
	for _, c := range strangers {
		checkRune(t, c)
		if Letter(c) || Mark(c) || Fold(c) != c {
			t.Errorf("%x isn't left as it is", c)
		}
	}
}

// P5.1: the ends of the spans, with their neighbours written out.
func TestLetterEdges(t *testing.T) {
	for _, c := range []struct {
		c    rune
		want bool
	}{
		{0x40, false}, {0x41, true}, {0x5A, true}, {0x5B, false},
		{0x60, false}, {0x61, true}, {0x7A, true}, {0x7B, false},
		{0xAA, false}, {0xB5, false}, {0xBA, false},
		{0xBF, false}, {0xC0, true}, {0xD6, true}, {0xD7, false}, {0xD8, true}, {0xF6, true}, {0xF7, false}, {0xF8, true}, {0x17F, true}, {0x180, false},
		{0x386, false}, {0x390, false}, {0x391, true}, {0x3A1, true}, {0x3A2, false}, {0x3A3, true}, {0x3CE, true}, {0x3CF, false},
		{0x3FF, false}, {0x400, true}, {0x45F, true}, {0x460, false},
		{0, false}, {'0', false}, {'9', false}, {'_', false}, {'-', false}, {' ', false}, {0x27, false}, {0x2019, false}, {0x4E00, false}, {0x212A, false}, {0xFFFD, false},
	} {
		if got := Letter(c.c); got != c.want {
			t.Errorf("Letter(%x) = %v", c.c, got)
		}
	}
}

// P5.1: two marks, and none beside them.
func TestMarks(t *testing.T) {
	for _, c := range []rune{0x27, 0x2019} {
		if !Mark(c) || Letter(c) || Fold(c) != c {
			t.Errorf("%x isn't a mark alone", c)
		}
	}
	for _, c := range []rune{0, 0x22, 0x26, 0x28, 0x2D, 0x60, 0xB4, 0x2BC, 0x2018, 0x201A, 0x201B, 0x2032, 0xFF07, 'a', 'A', -0x27, 0x110027} {
		if Mark(c) {
			t.Errorf("Mark(%x)", c)
		}
	}
}

// P5.1: each row of the table, its ends and what stands beside them written out.
func TestFoldEdges(t *testing.T) {
	for _, c := range []struct{ c, want rune }{
		{0x40, 0x40}, {0x41, 0x61}, {0x5A, 0x7A}, {0x5B, 0x5B}, {0x61, 0x61}, {0x7A, 0x7A},
		{0xBF, 0xBF}, {0xC0, 0xE0}, {0xD6, 0xF6}, {0xD7, 0xD7}, {0xD8, 0xF8}, {0xDE, 0xFE}, {0xDF, 0xDF}, {0xE0, 0xE0}, {0xF7, 0xF7}, {0xFE, 0xFE}, {0xFF, 0xFF},
		{0x100, 0x101}, {0x101, 0x101}, {0x102, 0x103}, {0x12D, 0x12D}, {0x12E, 0x12F}, {0x12F, 0x12F}, {0x130, 0x130}, {0x131, 0x131},
		{0x132, 0x133}, {0x133, 0x133}, {0x134, 0x135}, {0x136, 0x137}, {0x137, 0x137}, {0x138, 0x138},
		{0x139, 0x13A}, {0x13A, 0x13A}, {0x13B, 0x13C}, {0x145, 0x146}, {0x146, 0x146}, {0x147, 0x148}, {0x148, 0x148}, {0x149, 0x149},
		{0x14A, 0x14B}, {0x14B, 0x14B}, {0x175, 0x175}, {0x176, 0x177}, {0x177, 0x177}, {0x178, 0xFF},
		{0x179, 0x17A}, {0x17A, 0x17A}, {0x17B, 0x17C}, {0x17D, 0x17E}, {0x17E, 0x17E}, {0x17F, 0x17F}, {0x180, 0x180}, {0x181, 0x181},
		{0x386, 0x386}, {0x388, 0x388}, {0x390, 0x390}, {0x391, 0x3B1}, {0x3A1, 0x3C1}, {0x3A2, 0x3A2}, {0x3A3, 0x3C3}, {0x3AB, 0x3CB}, {0x3AC, 0x3AC},
		{0x3C1, 0x3C1}, {0x3C2, 0x3C3}, {0x3C3, 0x3C3}, {0x3CE, 0x3CE}, {0x3CF, 0x3CF},
		{0x3FF, 0x3FF}, {0x400, 0x450}, {0x40F, 0x45F}, {0x410, 0x430}, {0x42F, 0x44F}, {0x430, 0x430}, {0x450, 0x450}, {0x45F, 0x45F}, {0x460, 0x460},
		{0x1E9E, 0x1E9E}, {0x212A, 0x212A}, {0xFF21, 0xFF21}, {0x10400, 0x10400},
	} {
		if got := Fold(c.c); got != c.want {
			t.Errorf("Fold(%x) = %x, want %x", c.c, got, c.want)
		}
	}
}

// P5.1, P5.2, P5.3: all letters, written out: the great ones, their small ones, and those that are neither.
func TestLettersWritten(t *testing.T) {
	great, small := []rune(greats), []rune(smalls)
	seen := map[rune]bool{0x3C2: true}
	if Fold(0x3C2) != 0x3C3 || !Letter(0x3C2) {
		t.Error("U+03C2")
	}
	for i, c := range great {
		if Fold(c) != small[i] || Fold(small[i]) != small[i] || !Letter(c) || !Letter(small[i]) {
			t.Errorf("%c: %c, want %c", c, Fold(c), small[i])
		}
		seen[c], seen[small[i]] = true, true
	}
	for _, c := range loners {
		if Fold(c) != c || !Letter(c) {
			t.Errorf("%c: %c", c, Fold(c))
		}
		seen[c] = true
	}
	for c := range rune(0x110000) {
		if Letter(c) != seen[c] {
			t.Errorf("Letter(%x) = %v", c, !seen[c])
		}
	}
	if Text(greats) != smalls || Text(smalls) != smalls {
		t.Errorf("Text of all: %q", Text(greats))
	}
}

// P5.1: Unicode's own small ones are the same, but of two letters.
func TestAgainstUnicode(t *testing.T) {
	for c := range rune(0x110000) {
		if !Letter(c) {
			continue
		}
		if !unicode.IsLetter(c) {
			t.Errorf("%x is no letter", c)
		}
		if c != 0x130 && c != 0x3C2 && Fold(c) != unicode.ToLower(c) {
			t.Errorf("Fold(%x) = %x, want %x", c, Fold(c), unicode.ToLower(c))
		}
	}
}

// samples are texts of all kinds: of no bytes, folded ones, marks, and bytes that are no well-formed sequence.
var samples = []string{
	"", "a", "A", "ÄΣ", "äσ", "Don't Stop", "DON’T STOP", "ΟΔΥΣΣΕΥΣ", "Οδυσσευς", "Жё ЁЖ", "Ÿ", "ÿ", "İı", "Kſß", "×÷",
	"\x00A\x00", "A\xFF", "\xFFA", "\x80", "\xC3", "A\xC3", "\xC3A\x84", "\xE2\x82A", "\xF0\x9F\x98Z", "\xED\xA0\x80", "\xC0\x80", "\xC1\x81", "\xF4\x90\x80\x80", "\xF5\xFE\xFF",
	"\uFFFD", "\uFEFFA", "Å", "A\u030A", "😀A€", "\U0010FFFF", greats, smalls,
}

// P5.2, the chapter's example, and others written out.
func TestTextWritten(t *testing.T) {
	for _, c := range []struct{ s, want string }{
		{"", ""},
		{"ÄΣ", "äσ"},
		{"äσ", "äσ"},
		{"Don't STOP, 0-9_Z!", "don't stop, 0-9_z!"},
		{"DON’T", "don’t"},
		{"ΟΔΥΣΣΕΥΣ Οδυσσευς", "οδυσσευσ οδυσσευσ"},
		{"ŸÿŶ", "ÿÿŷ"},
		{"İIı", "İiı"},
		{"ЁЖИК", "ёжик"},
		{"×÷ΆΐК", "×÷Άΐк"},
		{"\u212A", "\u212A"},
		{"A\x00B", "a\x00b"},
		{"A\xFFB", "a\uFFFDb"},
		{"\xE2\x82A", "\uFFFD\uFFFDa"},
		{"\xF0\x9F\x98", "\uFFFD\uFFFD\uFFFD"},
		{"\xED\xA0\x80", "\uFFFD\uFFFD\uFFFD"},
		{"\xC1\x81", "\uFFFD\uFFFD"},
		{"\uFFFD", "\uFFFD"},
		{"😀", "😀"},
	} {
		if got := Text(c.s); got != c.want {
			t.Errorf("Text(%q) = %q, want %q", c.s, got, c.want)
		}
	}
}

// P1, P5.2, P5.3: samples, whole and cut at every byte, and every code point as a text.
func TestTextSamples(t *testing.T) {
	for _, s := range samples {
		checkText(t, s)
		for i := range len(s) {
			checkText(t, s[:i])
			checkText(t, s[i:])
		}
	}
	for c := range rune(0x110000) {
		if got, want := Text(string(c)), string(wantFold(c)); got != want {
			t.Fatalf("Text of %x alone = %q, want %q", c, got, want)
		}
	}
	for x := range 1 << 16 {
		checkText(t, string([]byte{byte(x >> 8), byte(x)}))
	}
}

// P5.2, P5.3: random texts of edges, of letters and of bytes.
func TestTextRandom(t *testing.T) {
	r := rand.New(rand.NewSource(5))
	for range 5000 {
		var b []byte
		for range r.Intn(20) {
			switch r.Intn(4) {
			case 0:
				b = utf8.AppendRune(b, edges[r.Intn(len(edges))]+rune(r.Intn(3))-1)
			case 1:
				b = utf8.AppendRune(b, rune(r.Intn(0x480)))
			case 2:
				b = append(b, byte(r.Intn(256)))
			case 3:
				b = append(b, samples[r.Intn(len(samples))]...)
			}
		}
		checkText(t, string(b))
	}
}

// P1, P5.2: a text of many bytes, of which some are no sequence.
func TestTextMany(t *testing.T) {
	if got := Text(strings.Repeat("AΣ\xFF", 200000)); got != strings.Repeat("aσ\uFFFD", 200000) {
		t.Errorf("%d bytes", len(got))
	}
}

// P5.1, P5.3: the spans' ends, and what stands beside them.
func TestEdgesAndNeighbours(t *testing.T) {
	for _, c := range edges {
		for d := rune(-2); d <= 2; d++ {
			checkRune(t, c+d)
		}
	}
}

// P1, P5.1, P5.2, P5.3
func FuzzText(f *testing.F) {
	for i, s := range samples {
		f.Add(s, edges[i%len(edges)])
	}
	f.Fuzz(func(t *testing.T, s string, c rune) {
		checkText(t, s)
		checkRune(t, c)
		for _, c := range s {
			checkRune(t, c)
		}
	})
}
