package crc

import (
	"bytes"
	"hash/crc32"
	"math/rand"
	"testing"
)

// told is P2.1, word by word, without any table.
func told(c uint32, b []byte) uint32 {
	c = ^c
	for _, x := range b {
		c ^= uint32(x)
		for range 8 {
			lowest := c & 1
			c >>= 1
			if lowest == 1 {
				c ^= 0xEDB88320
			}
		}
	}
	return ^c
}

var begins = []uint32{0, 1, 2, 0x80, 0xFF, 0x100, 0x7FFFFFFF, 0x80000000, 0xEDB88320, 0xDEBB20E3, 0xFFFFFFFE, 0xFFFFFFFF}

func randomBytes(r *rand.Rand, n int) []byte {
	b := make([]byte, n)
	r.Read(b)
	return b
}

// P2.1, the chapter's example, and others that are widely known.
func TestOfKnown(t *testing.T) {
	for _, c := range []struct {
		in   string
		want uint32
	}{
		{"", 0},
		{"a", 0xE8B7BE43},
		{"abc", 0x352441C2},
		{"123456789", 0xCBF43926},
		{"\x00", 0xD202EF8D},
		{"\xFF", 0xFF000000},
		{"\x00\x00\x00\x00", 0x2144DF1C},
		{"\xFF\xFF\xFF\xFF", 0xFFFFFFFF},
		{"The quick brown fox jumps over the lazy dog", 0x414FA339},
	} {
		if got := Of([]byte(c.in)); got != c.want {
			t.Errorf("Of(%q) = %#x, want %#x", c.in, got, c.want)
		}
	}
}

// P2.1, R2: no bytes leave any sum as it is; nil and empty are the same.
func TestNoBytes(t *testing.T) {
	if Of(nil) != 0 || Of([]byte{}) != 0 {
		t.Error("Of of no bytes", Of(nil), Of([]byte{}))
	}
	for _, c := range begins {
		if More(c, nil) != c || More(c, []byte{}) != c {
			t.Errorf("More(%#x) of no bytes: %#x, %#x", c, More(c, nil), More(c, []byte{}))
		}
	}
}

// P2.1: every single byte, behind any sum to begin with.
func TestEveryByte(t *testing.T) {
	for x := range 256 {
		b := []byte{byte(x)}
		if Of(b) != told(0, b) {
			t.Errorf("Of(%d) = %#x, want %#x", x, Of(b), told(0, b))
		}
		for _, c := range begins {
			if got := More(c, b); got != told(c, b) {
				t.Errorf("More(%#x, %d) = %#x, want %#x", c, x, got, told(c, b))
			}
		}
	}
}

// P2.1: all pairs of bytes.
func TestEveryPair(t *testing.T) {
	for x := range 1 << 16 {
		b := []byte{byte(x >> 8), byte(x)}
		if got := Of(b); got != told(0, b) {
			t.Fatalf("Of(%v) = %#x, want %#x", b, got, told(0, b))
		}
	}
}

// P2.1: any bytes, any sum to begin with; Of is More from 0 on.
func TestAnyBytes(t *testing.T) {
	r := rand.New(rand.NewSource(2))
	for n := range 600 {
		b := randomBytes(r, n)
		c := r.Uint32()
		if got := More(c, b); got != told(c, b) || got != crc32.Update(c, crc32.IEEETable, b) {
			t.Fatalf("More(%#x, %d bytes) = %#x, want %#x", c, n, got, told(c, b))
		}
		if got := Of(b); got != told(0, b) || got != More(0, b) {
			t.Fatalf("Of(%d bytes) = %#x, want %#x", n, got, told(0, b))
		}
	}
}

// P2.1: as many bytes as a record may have, all of one kind.
func TestManyBytes(t *testing.T) {
	for _, x := range []byte{0, 1, 0x80, 0xFF} {
		b := bytes.Repeat([]byte{x}, 1<<20)
		if got := Of(b); got != crc32.ChecksumIEEE(b) {
			t.Errorf("Of(2^20 times %d) = %#x, want %#x", x, got, crc32.ChecksumIEEE(b))
		}
	}
}

// P2.2: two parts, cut at any place, and behind any sum; three parts, too.
func TestParts(t *testing.T) {
	r := rand.New(rand.NewSource(22))
	for _, n := range []int{0, 1, 2, 3, 9, 64, 255, 256, 257} {
		b := randomBytes(r, n)
		whole := Of(b)
		for i := 0; i <= n; i++ {
			if got := More(Of(b[:i]), b[i:]); got != whole {
				t.Fatalf("%d bytes cut at %d: %#x, want %#x", n, i, got, whole)
			}
			for _, c := range begins {
				if More(More(c, b[:i]), b[i:]) != More(c, b) {
					t.Fatalf("%d bytes cut at %d, behind %#x", n, i, c)
				}
			}
			if j := i / 2; More(More(Of(b[:j]), b[j:i]), b[i:]) != whole {
				t.Fatalf("%d bytes cut at %d and %d", n, j, i)
			}
		}
	}
}

// P2.2: a single bit that is turned is told, at every place, behind any sum.
func TestTurnedBit(t *testing.T) {
	r := rand.New(rand.NewSource(222))
	for _, n := range []int{1, 2, 3, 4, 5, 9, 100, 1000} {
		b := randomBytes(r, n)
		for _, c := range begins {
			whole := More(c, b)
			for bit := range 8 * n {
				b[bit/8] ^= 1 << (bit % 8)
				if More(c, b) == whole {
					t.Fatalf("%d bytes behind %#x: bit %d turned isn't told", n, c, bit)
				}
				b[bit/8] ^= 1 << (bit % 8)
			}
		}
	}
}

// P2.2: a bit of the sum to begin with is told, as well.
func TestTurnedBegin(t *testing.T) {
	b := []byte("mantelet")
	for bit := range 32 {
		if More(0, b) == More(1<<bit, b) {
			t.Errorf("bit %d of the sum to begin with isn't told", bit)
		}
	}
}

// R3, R4: what is handed in stays, also behind its end; the same call has the same answer.
func TestNothingKept(t *testing.T) {
	room := []byte("123456789 and what is behind")
	was := bytes.Clone(room)
	first := Of(room[:9])
	Of([]byte("else"))
	More(0xFFFFFFFF, room)
	if second := Of(room[:9]); first != 0xCBF43926 || second != first {
		t.Errorf("first %#x, second %#x", first, second)
	}
	if !bytes.Equal(room, was) {
		t.Errorf("turned: %q", room)
	}
}

func FuzzMore(f *testing.F) {
	f.Add(uint32(0), []byte("123456789"), 4)
	f.Add(uint32(0xFFFFFFFF), []byte{0}, 0)
	f.Fuzz(func(t *testing.T, c uint32, b []byte, cut int) {
		want := told(c, b)
		if got := More(c, b); got != want {
			t.Fatalf("More(%#x, %v) = %#x, want %#x", c, b, got, want)
		}
		if cut < 0 || cut > len(b) {
			return
		}
		if got := More(More(c, b[:cut]), b[cut:]); got != want {
			t.Fatalf("More(%#x, %v) cut at %d = %#x, want %#x", c, b, cut, got, want)
		}
	})
}
