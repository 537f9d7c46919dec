package num

import (
	"bytes"
	"math"
	"math/big"
	"math/bits"
	"slices"
	"testing"

	"mantelet/api"
)

// edges are numbers about each power of two, so about each length that a number may have.
func edges() []uint64 {
	l := []uint64{0, 300, 123456789, math.MaxUint64}
	for k := range 64 {
		p := uint64(1) << k
		l = append(l, p-1, p, p+1, p|p>>1, -p)
	}
	slices.Sort(l)
	return slices.Compact(l)
}

// spell is a number as the document's words say it, by another way than the program's: of digits to the base 128.
func spell(n uint64) []byte {
	size := max(1, (bits.Len64(n)+6)/7)
	out := make([]byte, size)
	rest, base := new(big.Int).SetUint64(n), big.NewInt(128)
	for i := range out {
		digit := new(big.Int)
		rest.DivMod(rest, base, digit)
		out[i] = byte(digit.Uint64())
		if i < size-1 {
			out[i] += 128
		}
	}
	return out
}

// expect is what the document says of Get, by numbers without a bound.
func expect(b []byte) (uint64, int, api.Errno) {
	end := slices.IndexFunc(b[:min(len(b), 10)], func(c byte) bool { return c < 128 })
	if end < 0 && len(b) < 10 {
		return 0, 0, api.ErrShort
	}
	if end < 0 {
		return 0, 0, api.ErrForm
	}
	sum := new(big.Int)
	for i := end; i >= 0; i-- {
		sum.Mul(sum, big.NewInt(128))
		sum.Add(sum, big.NewInt(int64(b[i]&127)))
	}
	if !sum.IsUint64() || len(spell(sum.Uint64())) != end+1 {
		return 0, 0, api.ErrForm
	}
	return sum.Uint64(), end + 1, api.OK
}

// checkGet holds Get against what the document says, and, of what is read, holds P1.3.
func checkGet(t *testing.T, b []byte) {
	t.Helper()
	was := bytes.Clone(b)
	n, size, err := Get(b)
	wantN, wantSize, wantErr := expect(was)
	if n != wantN || size != wantSize || err != wantErr {
		t.Errorf("Get(%v) = %d, %d, %d; want %d, %d, %d", was, n, size, err, wantN, wantSize, wantErr)
	}
	if !bytes.Equal(b, was) {
		t.Errorf("Get turned %v into %v", was, b)
	}
	if err == api.OK && size <= len(b) && !bytes.Equal(Put(nil, n), b[:size]) {
		t.Errorf("Get(%v) = %d, which is put as %v", was, n, Put(nil, n))
	}
}

// P1.1
func TestPutBytes(t *testing.T) {
	for _, c := range []struct {
		n    uint64
		want []byte
	}{
		{0, []byte{0}},
		{1, []byte{1}},
		{127, []byte{127}},
		{128, []byte{128, 1}},
		{300, []byte{172, 2}},
		{16383, []byte{255, 127}},
		{16384, []byte{128, 128, 1}},
		{1 << 62, []byte{128, 128, 128, 128, 128, 128, 128, 128, 64}},
		{1<<63 - 1, []byte{255, 255, 255, 255, 255, 255, 255, 255, 127}},
		{1 << 63, []byte{128, 128, 128, 128, 128, 128, 128, 128, 128, 1}},
		{math.MaxUint64, []byte{255, 255, 255, 255, 255, 255, 255, 255, 255, 1}},
	} {
		if got := Put(nil, c.n); !bytes.Equal(got, c.want) {
			t.Errorf("Put(nil, %d) = %v, want %v", c.n, got, c.want)
		}
	}
	for _, n := range edges() {
		if got, want := Put(nil, n), spell(n); !bytes.Equal(got, want) {
			t.Errorf("Put(nil, %d) = %v, want %v", n, got, want)
		}
	}
}

// P1.1: b, and n behind it.
func TestPutBehind(t *testing.T) {
	for _, b := range [][]byte{nil, {}, {0}, {128}, {9, 8, 7}, bytes.Repeat([]byte{255}, 1000)} {
		for _, n := range edges() {
			want := append(bytes.Clone(b), spell(n)...)
			if got := Put(b, n); !bytes.Equal(got, want) {
				t.Errorf("Put(%v, %d) = %v", b, n, got)
			}
		}
	}
	var row []byte
	for _, n := range edges() {
		row = Put(row, n)
	}
	for _, n := range edges() {
		got, size, err := Get(row)
		if got != n || err != api.OK {
			t.Fatalf("of a row: %d, %d, want %d", got, err, n)
		}
		row = row[size:]
	}
	if len(row) != 0 {
		t.Errorf("of a row is left: %v", row)
	}
}

// R3: what is handed in stays as it is, also the room behind it, and what is told is the caller's own.
func TestPutSharesNothing(t *testing.T) {
	whole := bytes.Repeat([]byte{7}, 64)
	handed := whole[:3]
	first, second := Put(handed, math.MaxUint64), Put(handed, 1)
	if !bytes.Equal(whole, bytes.Repeat([]byte{7}, 64)) {
		t.Errorf("Put wrote into what it was handed: %v", whole)
	}
	clear(first)
	if !bytes.Equal(whole, bytes.Repeat([]byte{7}, 64)) || !bytes.Equal(second, []byte{7, 7, 7, 1}) {
		t.Errorf("an answer is shared: %v, %v", whole, second)
	}
	clear(whole)
	if !bytes.Equal(second, []byte{7, 7, 7, 1}) {
		t.Errorf("an answer hangs on what was handed in: %v", second)
	}
}

// P1.1: each error, and the edges that the chapter names.
func TestGetFaults(t *testing.T) {
	full := func(k int, behind ...byte) []byte {
		return append(bytes.Repeat([]byte{255}, k), behind...)
	}
	low := func(k int, behind ...byte) []byte {
		return append(bytes.Repeat([]byte{128}, k), behind...)
	}
	for _, c := range []struct {
		b    []byte
		want api.Errno
	}{
		{nil, api.ErrShort},
		{[]byte{}, api.ErrShort},
		{full(1), api.ErrShort},
		{low(1), api.ErrShort},
		{full(9), api.ErrShort},
		{low(9), api.ErrShort},
		{full(10), api.ErrForm},
		{low(10), api.ErrForm},
		{full(10, 1), api.ErrForm},
		{low(10, 1), api.ErrForm},
		{full(11), api.ErrForm},
		{low(1, 0), api.ErrForm},
		{full(1, 0), api.ErrForm},
		{low(2, 0, 1), api.ErrForm},
		{full(8, 0), api.ErrForm},
		{full(9, 0), api.ErrForm},
		{low(9, 0), api.ErrForm},
		{full(9, 2), api.ErrForm},
		{low(9, 2), api.ErrForm},
		{full(9, 3), api.ErrForm},
		{full(9, 64), api.ErrForm},
		{low(9, 127), api.ErrForm},
		{full(9, 128), api.ErrForm},
		{full(9, 129), api.ErrForm},
	} {
		if n, size, err := Get(c.b); n != 0 || size != 0 || err != c.want {
			t.Errorf("Get(%v) = %d, %d, %d; want 0, 0, %d", c.b, n, size, err, c.want)
		}
	}
}

// P1.1
func TestGetReads(t *testing.T) {
	for _, c := range []struct {
		b    []byte
		n    uint64
		size int
	}{
		{[]byte{0}, 0, 1},
		{[]byte{0, 0}, 0, 1},
		{[]byte{0, 128}, 0, 1},
		{[]byte{127, 255}, 127, 1},
		{[]byte{172, 2}, 300, 2},
		{[]byte{172, 2, 0}, 300, 2},
		{[]byte{128, 128, 1}, 16384, 3},
		{[]byte{255, 255, 255, 255, 255, 255, 255, 255, 127, 0}, 1<<63 - 1, 9},
		{[]byte{128, 128, 128, 128, 128, 128, 128, 128, 128, 1}, 1 << 63, 10},
		{[]byte{255, 255, 255, 255, 255, 255, 255, 255, 255, 1, 255}, math.MaxUint64, 10},
	} {
		if n, size, err := Get(c.b); n != c.n || size != c.size || err != api.OK {
			t.Errorf("Get(%v) = %d, %d, %d; want %d, %d, OK", c.b, n, size, err, c.n, c.size)
		}
	}
}

// P1, P1.1, P1.3: all bytes up to two, and all of each length whose last two are at the edges.
func TestGetEverything(t *testing.T) {
	checkGet(t, nil)
	for a := range 256 {
		checkGet(t, []byte{byte(a)})
		for b := range 256 {
			checkGet(t, []byte{byte(a), byte(b)})
		}
	}
	edge := []byte{0, 1, 2, 3, 63, 64, 126, 127, 128, 129, 130, 191, 192, 254, 255}
	for size := range 14 {
		for _, fill := range []byte{128, 129, 192, 255} {
			ahead := bytes.Repeat([]byte{fill}, size)
			for _, x := range edge {
				for _, y := range edge {
					checkGet(t, append(bytes.Clone(ahead), x, y))
				}
			}
		}
	}
}

// P1.3: whatever stands behind.
func TestPutIsRead(t *testing.T) {
	for _, n := range edges() {
		for _, behind := range [][]byte{nil, {0}, {1}, {127}, {128}, {255}, bytes.Repeat([]byte{255}, 12), make([]byte, 12)} {
			put := Put(nil, n)
			b := append(bytes.Clone(put), behind...)
			if got, size, err := Get(b); got != n || size != len(put) || err != api.OK {
				t.Errorf("%d with %v behind is read as %d, %d, %d", n, behind, got, size, err)
			}
		}
	}
}

// P1.3: no begin of a number is one.
func TestCutIsShort(t *testing.T) {
	for _, n := range edges() {
		put := Put(nil, n)
		for cut := range put {
			if got, size, err := Get(put[:cut]); got != 0 || size != 0 || err != api.ErrShort {
				t.Errorf("%d, cut at %d: %d, %d, %d", n, cut, got, size, err)
			}
		}
	}
}

// P1, P1.1, P1.3
func FuzzGet(f *testing.F) {
	f.Add([]byte{172, 2})
	f.Add([]byte{128, 0})
	f.Add([]byte{255, 255, 255, 255, 255, 255, 255, 255, 255, 1, 7})
	f.Fuzz(checkGet)
}

// P1.2
func TestAddEdges(t *testing.T) {
	for _, c := range []struct {
		a, b, want uint64
		ok         bool
	}{
		{0, 0, 0, true},
		{2, 3, 5, true},
		{1 << 61, 1 << 61, 1 << 62, true},
		{1<<61 + 1, 1 << 61, 0, false},
		{1 << 62, 0, 1 << 62, true},
		{0, 1 << 62, 1 << 62, true},
		{1<<62 - 1, 1, 1 << 62, true},
		{1 << 62, 1, 0, false},
		{1, 1 << 62, 0, false},
		{0, 1<<62 + 1, 0, false},
		{1<<62 + 1, 0, 0, false},
		{1 << 62, 1 << 62, 0, false},
		{1 << 63, 1 << 63, 0, false},
		{1<<63 + 1, 1 << 63, 0, false},
		{math.MaxUint64, 0, 0, false},
		{math.MaxUint64, 1, 0, false},
		{2, math.MaxUint64, 0, false},
		{math.MaxUint64, math.MaxUint64, 0, false},
	} {
		if got, ok := Add(c.a, c.b); got != c.want || ok != c.ok {
			t.Errorf("Add(%d, %d) = %d, %v; want %d, %v", c.a, c.b, got, ok, c.want, c.ok)
		}
	}
}

// P1, P1.2: all sums of edges, held against sums without a bound.
func TestAddEverything(t *testing.T) {
	bound := new(big.Int).SetUint64(api.MaxCount)
	for _, a := range edges() {
		for _, b := range edges() {
			sum := new(big.Int).SetUint64(a)
			sum.Add(sum, new(big.Int).SetUint64(b))
			wantOK := sum.Cmp(bound) <= 0
			var want uint64
			if wantOK {
				want = sum.Uint64()
			}
			if got, ok := Add(a, b); got != want || ok != wantOK {
				t.Errorf("Add(%d, %d) = %d, %v; want %d, %v", a, b, got, ok, want, wantOK)
			}
		}
	}
}
