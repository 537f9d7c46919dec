package frame

import (
	"bytes"
	"encoding/binary"
	"hash/crc32"
	"math"
	"math/rand"
	"testing"

	"mantelet/api"
)

// record is a record by the chapter's words, made by the library alone; its number may be any.
func record(n uint64, payload []byte) []byte {
	b := binary.AppendUvarint(nil, n)
	b = append(b, payload...)
	return binary.LittleEndian.AppendUint32(b, crc32.ChecksumIEEE(payload))
}

func whole(payload []byte) []byte {
	return record(uint64(len(payload)), payload)
}

// expect is what P3.1 says of Get, error by error, in its order.
func expect(b []byte) ([]byte, int, api.Errno) {
	n, size := binary.Uvarint(b)
	switch {
	case size == 0 && len(b) < 10:
		return nil, 0, api.ErrShort
	case size <= 0:
		return nil, 0, api.ErrForm
	case len(binary.AppendUvarint(nil, n)) != size:
		return nil, 0, api.ErrForm
	case n > 1<<20:
		return nil, 0, api.ErrForm
	case uint64(len(b)-size) < n+4:
		return nil, 0, api.ErrShort
	}
	payload, sum := b[size:size+int(n)], b[size+int(n):size+int(n)+4]
	if binary.LittleEndian.Uint32(sum) != crc32.ChecksumIEEE(payload) {
		return nil, 0, api.ErrSum
	}
	return payload, size + int(n) + 4, api.OK
}

// checkGet holds Get against expect, so R1 as well, and R3's first half.
func checkGet(t *testing.T, b []byte) {
	t.Helper()
	was := bytes.Clone(b)
	payload, size, err := Get(b)
	wantPayload, wantSize, wantErr := expect(was)
	if !bytes.Equal(payload, wantPayload) || size != wantSize || err != wantErr {
		t.Errorf("Get(%v) = %v, %d, %d; want %v, %d, %d", short(was), short(payload), size, err, short(wantPayload), wantSize, wantErr)
	}
	if !bytes.Equal(b, was) {
		t.Errorf("Get turned %v", short(was))
	}
}

// checkScan holds Scan against P3.2, by expect.
func checkScan(t *testing.T, b []byte) {
	t.Helper()
	was := bytes.Clone(b)
	payloads, at := Scan(b)
	place := 0
	for i := 0; ; i++ {
		want, size, err := expect(was[place:])
		if err != api.OK {
			if i != len(payloads) || at != place {
				t.Errorf("Scan(%v) = %d payloads up to %d; want %d up to %d", short(was), len(payloads), at, i, place)
			}
			break
		}
		if i >= len(payloads) || !bytes.Equal(payloads[i], want) {
			t.Errorf("Scan(%v): payload %d isn't %v", short(was), i, short(want))
			break
		}
		place += size
	}
	if !bytes.Equal(b, was) {
		t.Errorf("Scan turned %v", short(was))
	}
}

func short(b []byte) []byte {
	return b[:min(len(b), 40)]
}

func randomBytes(r *rand.Rand, n int) []byte {
	b := make([]byte, n)
	r.Read(b)
	return b
}

// samples are payloads of lengths about each edge: none, a number of one byte and of two, of two and of three, and the greatest.
func samples() [][]byte {
	r := rand.New(rand.NewSource(3))
	var l [][]byte
	for _, n := range []int{0, 1, 2, 3, 4, 5, 9, 126, 127, 128, 129, 255, 256, 300, 16383, 16384, 1<<20 - 1, 1 << 20} {
		l = append(l, randomBytes(r, n))
	}
	return append(l, []byte{0}, []byte{0, 0, 0, 0, 0}, bytes.Repeat([]byte{255}, 10), whole([]byte("a record in one")))
}

// P3.1, the chapter's example, and others byte by byte.
func TestPutBytes(t *testing.T) {
	for _, c := range []struct {
		b, payload, want []byte
	}{
		{nil, nil, []byte{0, 0, 0, 0, 0}},
		{[]byte{}, []byte{}, []byte{0, 0, 0, 0, 0}},
		{[]byte{5}, nil, []byte{5, 0, 0, 0, 0, 0}},
		{nil, []byte("a"), []byte{1, 'a', 0x43, 0xBE, 0xB7, 0xE8}},
		{nil, []byte("abc"), []byte{3, 'a', 'b', 'c', 0xC2, 0x41, 0x24, 0x35}},
		{[]byte{7}, []byte("123456789"), append([]byte("\x07\x09123456789"), 0x26, 0x39, 0xF4, 0xCB)},
		{nil, []byte{0}, []byte{1, 0, 0x8D, 0xEF, 0x02, 0xD2}},
		{nil, []byte{255}, []byte{1, 255, 0, 0, 0, 255}},
	} {
		if got, err := Put(c.b, c.payload); !bytes.Equal(got, c.want) || err != api.OK {
			t.Errorf("Put(%v, %v) = %v, %d; want %v", c.b, c.payload, got, err, c.want)
		}
	}
}

// P3.1: b, and the record behind it, whatever b is.
func TestPutBehind(t *testing.T) {
	for _, b := range [][]byte{nil, {}, {0}, {128}, whole([]byte("x")), bytes.Repeat([]byte{255}, 1000)} {
		for _, payload := range samples() {
			want := append(bytes.Clone(b), whole(payload)...)
			if got, err := Put(b, payload); !bytes.Equal(got, want) || err != api.OK {
				t.Errorf("Put(%v, %d bytes) = %d bytes, %d; want %d", short(b), len(payload), len(got), err, len(want))
			}
		}
	}
}

// P3.1: 2^20 bytes are put, one more is ErrFull, and so are many more; R1: nothing beside it.
func TestPutBound(t *testing.T) {
	room := make([]byte, 1<<21)
	got, err := Put([]byte{9}, room[:1<<20])
	if err != api.OK || len(got) != 1+3+1<<20+4 {
		t.Errorf("2^20 bytes: %d bytes, %d", len(got), err)
	}
	for _, n := range []int{1<<20 + 1, 1<<20 + 2, 1<<21 - 1, 1 << 21} {
		for _, b := range [][]byte{nil, {9}} {
			if got, err := Put(b, room[:n]); len(got) != 0 || err != api.ErrFull {
				t.Errorf("%d bytes: %d bytes, %d; want none, ErrFull", n, len(got), err)
			}
		}
	}
}

// P3.1: the bound is the payload's alone, not that of what it is put behind.
func TestPutBehindMany(t *testing.T) {
	b := make([]byte, 1<<20+5)
	if got, err := Put(b, []byte("x")); len(got) != len(b)+6 || err != api.OK {
		t.Errorf("%d bytes, %d", len(got), err)
	}
}

// R3: what is handed in stays, also the room behind it; no answer shares with it, or with another.
func TestPutSharesNothing(t *testing.T) {
	room := bytes.Repeat([]byte{7}, 64)
	first, _ := Put(room[:3], room[2:6])
	second, _ := Put(room[:3], room[:0])
	if !bytes.Equal(room, bytes.Repeat([]byte{7}, 64)) {
		t.Errorf("Put wrote into what it was handed: %v", room)
	}
	want := append([]byte{7, 7, 7}, whole([]byte{7, 7, 7, 7})...)
	clear(room)
	clear(second)
	if !bytes.Equal(first, want) {
		t.Errorf("an answer is shared: %v, want %v", first, want)
	}
}

// P3.1: each error of Get, and where more than one could be told, the first; R1: zero values beside it.
func TestGetFaults(t *testing.T) {
	cat := func(parts ...[]byte) []byte { return bytes.Join(parts, nil) }
	turned := whole([]byte("abc"))
	turned[len(turned)-1] ^= 1
	great := make([]byte, 1<<20+1)
	for _, c := range []struct {
		name string
		b    []byte
		want api.Errno
	}{
		{"none", nil, api.ErrShort},
		{"empty", []byte{}, api.ErrShort},
		{"a number that goes on", []byte{128}, api.ErrShort},
		{"nine bytes that go on", bytes.Repeat([]byte{255}, 9), api.ErrShort},
		{"ten bytes that go on", bytes.Repeat([]byte{255}, 10), api.ErrForm},
		{"a number of too many bytes", []byte{128, 0}, api.ErrForm},
		{"so, with a sum", []byte{128, 0, 0, 0, 0, 0}, api.ErrForm},
		{"so, with a payload", cat([]byte{129, 0}, whole([]byte("a"))[1:]), api.ErrForm},
		{"a number above 64 bits", append(bytes.Repeat([]byte{255}, 9), 2), api.ErrForm},
		{"2^20+1, and nothing", binary.AppendUvarint(nil, 1<<20+1), api.ErrForm},
		{"2^20+1, whole", whole(great), api.ErrForm},
		{"2^20+1, whole but its sum", cat(whole(great)[:len(great)+3], []byte{1, 2, 3, 4}), api.ErrForm},
		{"2^20, and nothing", binary.AppendUvarint(nil, 1<<20), api.ErrShort},
		{"2^31", record(1<<31, nil), api.ErrForm},
		{"2^32", record(1<<32, nil), api.ErrForm},
		{"2^32+1", record(1<<32+1, []byte("a")), api.ErrForm},
		{"2^63-1", record(1<<63-1, nil), api.ErrForm},
		{"2^63", record(1<<63, nil), api.ErrForm},
		{"2^64-4", record(math.MaxUint64-3, nil), api.ErrForm},
		{"2^64-1", record(math.MaxUint64, nil), api.ErrForm},
		{"no sum", []byte{0}, api.ErrShort},
		{"three of four", []byte{0, 0, 0, 0}, api.ErrShort},
		{"three of four, wrong", []byte{0, 9, 9, 9}, api.ErrShort},
		{"no payload", []byte{1}, api.ErrShort},
		{"a payload, one of the sum's missing", whole([]byte("abc"))[:7], api.ErrShort},
		{"so, and wrong", turned[:7], api.ErrShort},
		{"more told than there is", record(4, []byte("abc")), api.ErrShort},
		{"less told than there is", record(2, []byte("abc")), api.ErrSum},
		{"no sum of none", []byte{0, 0, 0, 0, 1}, api.ErrSum},
		{"a sum that is turned", turned, api.ErrSum},
		{"the highest first", []byte{1, 'a', 0xE8, 0xB7, 0xBE, 0x43}, api.ErrSum},
		{"a sum with the number in it", binary.LittleEndian.AppendUint32([]byte("\x01a"), crc32.ChecksumIEEE([]byte("\x01a"))), api.ErrSum},
		{"wrong, and a whole one behind", cat(turned, whole([]byte("a"))), api.ErrSum},
	} {
		if payload, size, err := Get(c.b); len(payload) != 0 || size != 0 || err != c.want {
			t.Errorf("%s: %v, %d, %d; want none, 0, %d", c.name, short(payload), size, err, c.want)
		}
		checkGet(t, c.b)
	}
}

// P1, P3.1: numbers about each power of two, with too few bytes behind, just enough, and more.
func TestGetNumbers(t *testing.T) {
	for k := range 64 {
		for _, n := range []uint64{1<<k - 1, 1 << k, 1<<k + 1, -(1 << k)} {
			for _, size := range []int{0, 1, 3, 4, 5, 130, 300} {
				checkGet(t, append(binary.AppendUvarint(nil, n), make([]byte, size)...))
				checkScan(t, append(binary.AppendUvarint(nil, n), make([]byte, size)...))
			}
			if n <= 20000 {
				payload := bytes.Repeat([]byte{byte(k)}, int(n))
				b := append(record(n, payload), 1, 2, 3)
				for cut := max(0, len(b)-9); cut <= len(b); cut++ {
					checkGet(t, b[:cut])
				}
			}
		}
	}
}

// P1, P3.1, P3.2: all that is of up to two bytes, and random bytes whose numbers are small.
func TestAnyBytes(t *testing.T) {
	for x := range 1 << 16 {
		checkGet(t, []byte{byte(x >> 8), byte(x)})
	}
	r := rand.New(rand.NewSource(33))
	for range 3000 {
		b := randomBytes(r, r.Intn(40))
		if len(b) > 0 && r.Intn(2) == 0 {
			b[0] %= 40
		}
		checkGet(t, b)
		checkScan(t, b)
	}
}

// P3.1: every bit of a record that is turned is told, by one error or another.
func TestTurnedBit(t *testing.T) {
	for _, payload := range samples()[:14] {
		b := whole(payload)
		for bit := range 8 * len(b) {
			b[bit/8] ^= 1 << (bit % 8)
			if bit >= 8*(len(b)-4-len(payload)) {
				if _, _, err := Get(b); err != api.ErrSum {
					t.Errorf("%d bytes, bit %d: %d, want ErrSum", len(payload), bit, err)
				}
			}
			if len(payload) < 200 {
				checkGet(t, b)
			}
			b[bit/8] ^= 1 << (bit % 8)
		}
	}
}

// R3: what is got is the caller's own.
func TestGetSharesNothing(t *testing.T) {
	b := whole([]byte("payload"))
	first, _, _ := Get(b)
	second, _, _ := Get(b)
	clear(first)
	if !bytes.Equal(b, whole([]byte("payload"))) || string(second) != "payload" {
		t.Errorf("shared: %v, %q", b, second)
	}
	first = append(second[:0], "PAYLOAD and more"...)
	if !bytes.Equal(b, whole([]byte("payload"))) {
		t.Errorf("the room behind %q is that of what was handed in", first)
	}
	second, _, _ = Get(b)
	clear(b)
	if string(second) != "payload" {
		t.Errorf("an answer hangs on what was handed in: %q", second)
	}
}

// P3.2: nothing, one, many; the empty one among them.
func TestScanWhole(t *testing.T) {
	for _, b := range [][]byte{nil, {}} {
		if l, at := Scan(b); len(l) != 0 || at != 0 {
			t.Errorf("of nothing: %v, %d", l, at)
		}
	}
	var b []byte
	for i, payload := range samples() {
		b = append(b, whole(payload)...)
		l, at := Scan(b)
		if len(l) != i+1 || at != len(b) {
			t.Fatalf("%d records of %d bytes: %d up to %d", i+1, len(b), len(l), at)
		}
		for k, want := range samples()[:i+1] {
			if !bytes.Equal(l[k], want) {
				t.Fatalf("payload %d of %d isn't as it was put", k, i+1)
			}
		}
	}
	if l, at := Scan(make([]byte, 5*1000)); len(l) != 1000 || at != 5000 {
		t.Errorf("a thousand empty ones: %d up to %d", len(l), at)
	}
}

// P3.2: the first place at which Get tells an error, whichever it is; what stands behind isn't looked at.
func TestScanStops(t *testing.T) {
	ahead := append(whole([]byte("one")), whole(nil)...)
	wrong := whole([]byte("wrong"))
	wrong[3] ^= 1
	for _, c := range []struct {
		name string
		tail []byte
		want api.Errno
	}{
		{"a number that goes on", []byte{128}, api.ErrShort},
		{"a number that is none", []byte{128, 0}, api.ErrForm},
		{"a number too great", record(1<<20+1, nil), api.ErrForm},
		{"too few bytes", []byte{9, 1, 2, 3}, api.ErrShort},
		{"a sum that isn't right", wrong, api.ErrSum},
		{"so, with whole ones behind", append(bytes.Clone(wrong), ahead...), api.ErrSum},
		{"any bytes", bytes.Repeat([]byte{255}, 30), api.ErrForm},
	} {
		if _, _, err := Get(c.tail); err != c.want {
			t.Errorf("%s: Get tells %d, want %d", c.name, err, c.want)
		}
		l, at := Scan(append(bytes.Clone(ahead), c.tail...))
		if len(l) != 2 || string(l[0]) != "one" || len(l[1]) != 0 || at != len(ahead) {
			t.Errorf("%s: %q, %d; want one and the empty one, %d", c.name, l, at, len(ahead))
		}
		if l, at := Scan(c.tail); len(l) != 0 || at != 0 {
			t.Errorf("%s, alone: %q, %d", c.name, l, at)
		}
	}
}

// R3: no two payloads share any, nor do they share with what was handed in.
func TestScanSharesNothing(t *testing.T) {
	b := append(whole([]byte("abc")), whole([]byte("def"))...)
	was := bytes.Clone(b)
	l, _ := Scan(b)
	l[0] = append(l[0], "much that goes behind it"...)
	clear(l[0])
	if string(l[1]) != "def" || !bytes.Equal(b, was) {
		t.Errorf("shared: %q, %v", l[1], b)
	}
	clear(b)
	if string(l[1]) != "def" {
		t.Errorf("an answer hangs on what was handed in: %q", l[1])
	}
}

// P3.3: what was put is got, whatever stands behind.
func TestPutIsGot(t *testing.T) {
	for _, payload := range samples() {
		put, _ := Put(nil, payload)
		for _, behind := range [][]byte{nil, {0}, {128}, {255}, make([]byte, 12), bytes.Repeat([]byte{255}, 12), put} {
			b := append(bytes.Clone(put), behind...)
			got, size, err := Get(b)
			if !bytes.Equal(got, payload) || size != len(put) || err != api.OK {
				t.Errorf("%d bytes with %v behind: %d bytes, %d, %d", len(payload), short(behind), len(got), size, err)
			}
		}
	}
}

// P3.3: records cut at every place are scanned as those that are whole.
func TestCutAnywhere(t *testing.T) {
	r := rand.New(rand.NewSource(333))
	var b []byte
	var ends []int
	var payloads [][]byte
	for _, n := range []int{0, 1, 0, 0, 5, 130, 9, 0, 300, 1, 127, 128, 0} {
		payload := randomBytes(r, n)
		var err api.Errno
		if b, err = Put(b, payload); err != api.OK {
			t.Fatal(err)
		}
		ends, payloads = append(ends, len(b)), append(payloads, payload)
	}
	for cut := 0; cut <= len(b); cut++ {
		count, place := 0, 0
		for count < len(ends) && ends[count] <= cut {
			place = ends[count]
			count++
		}
		l, at := Scan(b[:cut])
		if len(l) != count || at != place {
			t.Fatalf("cut at %d: %d up to %d, want %d up to %d", cut, len(l), at, count, place)
		}
		for i := range l {
			if !bytes.Equal(l[i], payloads[i]) {
				t.Fatalf("cut at %d: payload %d isn't as it was put", cut, i)
			}
		}
		if _, _, err := Get(b[place:cut]); err != api.ErrShort {
			t.Fatalf("cut at %d: Get tells %d of what is left, want ErrShort", cut, err)
		}
	}
}

// P1, P3.1, P3.2
func FuzzScan(f *testing.F) {
	f.Add([]byte{0, 0, 0, 0, 0, 1})
	f.Add(append(whole([]byte("123456789")), whole([]byte("x"))...))
	f.Add(record(1<<20+1, nil))
	f.Fuzz(func(t *testing.T, b []byte) {
		checkGet(t, b)
		checkScan(t, b)
		if len(b) > 1<<20 {
			return
		}
		put, err := Put(b, b)
		if !bytes.Equal(put, append(bytes.Clone(b), whole(b)...)) || err != api.OK {
			t.Errorf("Put of %v", short(b))
		}
	})
}
