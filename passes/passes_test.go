package passes

import (
	"bytes"
	"math"
	"math/rand"
	"slices"
	"strconv"
	"testing"

	"mantelet/api"
	"mantelet/loser"
	"mantelet/run"
)

const most = uint64(1) << 62

// sizes are those of blocks at which runs are merged.
var sizes = []int{1, 2, 3, 7, 254, 255}

// badFans are those that may not be.
var badFans = []int{math.MinInt, math.MinInt + 1, math.MinInt32, -8, -2, -1, 0, 1, 9, 10, 16, 256, 65536, math.MaxInt32, math.MaxInt - 1, math.MaxInt}

// badSizes are those of blocks that may not be.
var badSizes = []int{math.MinInt, -256, -255, -1, 0, 256, 257, 511, 65536, math.MaxInt}

// badNumbers are numbers of runs of which no groups are told.
var badNumbers = []int{math.MinInt, math.MinInt + 1, math.MinInt + 7, math.MinInt32, -65536, -8, -2, -1, 0, 65537, 65538, 65544, 131072, math.MaxInt32, math.MaxInt - 7, math.MaxInt - 1, math.MaxInt}

// expectGroups is what P12.1 says of groups: places are dealt out one by one, and a group that has as many as the fan is closed.
func expectGroups(n, fan int) [][2]int {
	if n < 1 || n > 65536 || fan < 2 || fan > 8 {
		return nil
	}
	var groups [][2]int
	had := fan
	for place := range n {
		if had == fan {
			groups = append(groups, [2]int{place, place})
			had = 0
		}
		groups[len(groups)-1][1]++
		had++
	}
	return groups
}

// expectPasses is the least power of a fan that n runs are no more than: so many of them one run can come of.
func expectPasses(n, fan int) int {
	if n < 1 || n > 65536 || fan < 2 || fan > 8 {
		return 0
	}
	power, passes := 1, 0
	for ; power < n; power *= fan {
		passes++
	}
	return passes
}

// expect is what P12.2 says of runs: they are parted by the library, until one is left.
func expect(runs [][]byte, fan, size int) ([]byte, api.Errno) {
	if fan < 2 || fan > 8 || size < 1 || size > 255 {
		return nil, api.ErrArg
	}
	if len(runs) > 256 {
		return nil, api.ErrFull
	}
	if len(runs) < 2 {
		return loser.Runs(runs, size)
	}
	for len(runs) > 1 {
		var made [][]byte
		for group := range slices.Chunk(runs, fan) {
			b, err := loser.Runs(group, size)
			if err != api.OK {
				return nil, err
			}
			made = append(made, b)
		}
		runs = made
	}
	return runs[0], api.OK
}

func cloned(runs [][]byte) [][]byte {
	out := make([][]byte, len(runs))
	for i, b := range runs {
		out[i] = bytes.Clone(b)
	}
	return out
}

func short[T any](l []T) []T {
	return l[:min(len(l), 12)]
}

// checkGroups holds Groups and Passes against P12.1.
func checkGroups(t *testing.T, n, fan int) [][2]int {
	t.Helper()
	got, want := Groups(n, fan), expectGroups(n, fan)
	if !slices.Equal(got, want) {
		t.Errorf("Groups(%d, %d) = %v; want %v", n, fan, short(got), short(want))
	}
	if got, want := Passes(n, fan), expectPasses(n, fan); got != want {
		t.Errorf("Passes(%d, %d) = %d; want %d", n, fan, got, want)
	}
	return got
}

// check holds Merge against P12.2, so R1 as well, against P12.3, and against R3's first half.
func check(t *testing.T, name string, runs [][]byte, fan, size int) ([]byte, api.Errno) {
	t.Helper()
	was := cloned(runs)
	want, wantErr := expect(was, fan, size)
	got, err := Merge(runs, fan, size)
	if !bytes.Equal(got, want) || err != wantErr {
		t.Errorf("%s: Merge(%v, %d, %d) = %v, %d; want %v, %d", name, short(was), fan, size, short(got), err, short(want), wantErr)
	}
	if !slices.EqualFunc(runs, was, bytes.Equal) {
		t.Errorf("%s: Merge turned %v", name, short(was))
	}
	if wantErr == api.OK {
		once, onceErr := loser.Runs(was, size)
		if !bytes.Equal(got, once) || onceErr != api.OK {
			t.Errorf("%s: fan %d, size %d: %v; all at once %v, %d", name, fan, size, short(got), short(once), onceErr)
		}
	}
	return got, err
}

// told is that runs, with every fan and of each size, are merged as the entries that are written out here.
func told(t *testing.T, name string, runs [][]byte, want ...api.Entry) {
	t.Helper()
	for fan := 2; fan <= 8; fan++ {
		for _, size := range sizes {
			got, err := check(t, name, runs, fan, size)
			if !bytes.Equal(got, encode(t, size, want...)) || err != api.OK {
				t.Errorf("%s: fan %d, size %d: %v, %d; want the run of %v", name, fan, size, short(got), err, short(want))
			}
		}
	}
}

// refused is that runs are merged as an error alone.
func refused(t *testing.T, name string, runs [][]byte, fan, size int, want api.Errno) {
	t.Helper()
	if got, err := check(t, name, runs, fan, size); len(got) != 0 || err != want {
		t.Errorf("%s: fan %d, size %d: %v, %d; want nothing, %d", name, fan, size, short(got), err, want)
	}
}

func entry(word string, count uint64) api.Entry {
	return api.Entry{Word: word, Count: count}
}

func encode(t *testing.T, size int, l ...api.Entry) []byte {
	t.Helper()
	b, err := run.Encode(l, size)
	if err != api.OK {
		t.Fatalf("run.Encode: %d", err)
	}
	return b
}

func many(n int, b []byte) [][]byte {
	return slices.Repeat([][]byte{b}, n)
}

// with are runs, and bytes at one's place instead of it.
func with(runs [][]byte, at int, b []byte) [][]byte {
	out := slices.Clone(runs)
	out[at] = b
	return out
}

// samples are n runs, in blocks of unlike sizes, with all their words: one that all have, one of each alone, and one that each third has.
func samples(t *testing.T, n int) ([][]byte, []api.Entry) {
	t.Helper()
	var runs [][]byte
	var all []api.Entry
	for i := range n {
		one := entry("one"+strconv.Itoa(1000+i), uint64(i+1))
		l := []api.Entry{entry("all", 1), one}
		if i%3 == 0 {
			l = append(l, entry("third", 2))
		}
		runs = append(runs, encode(t, []int{1, 2, 3, 255, 7}[i%5], l...))
		all = append(all, one)
	}
	if n > 0 {
		all = slices.Insert(append(all, entry("third", uint64(n+2)/3*2)), 0, entry("all", uint64(n)))
	}
	return runs, all
}

// noRuns are bytes that are none.
func noRuns(t *testing.T) [][]byte {
	t.Helper()
	one := encode(t, 1, entry("a", most))
	last := bytes.Clone(one)
	last[len(last)-1]++
	return [][]byte{nil, {}, {0}, {1}, one[1:], one[:len(one)-1], append(bytes.Clone(one), 0), slices.Concat(one, one), last}
}

// P12.1: the chapter's example.
func TestExample(t *testing.T) {
	if got := checkGroups(t, 5, 2); !slices.Equal(got, [][2]int{{0, 2}, {2, 4}, {4, 5}}) {
		t.Errorf("Groups(5, 2) = %v", got)
	}
	if got := Passes(5, 2); got != 3 {
		t.Errorf("Passes(5, 2) = %d", got)
	}
}

// P12.1: groups and passes that are written out here, at n's and fan's edges.
func TestEdges(t *testing.T) {
	for _, c := range []struct {
		n, fan, passes, groups int
		first, last            [2]int
	}{
		{1, 2, 0, 1, [2]int{0, 1}, [2]int{0, 1}},
		{1, 8, 0, 1, [2]int{0, 1}, [2]int{0, 1}},
		{2, 2, 1, 1, [2]int{0, 2}, [2]int{0, 2}},
		{2, 3, 1, 1, [2]int{0, 2}, [2]int{0, 2}},
		{2, 8, 1, 1, [2]int{0, 2}, [2]int{0, 2}},
		{3, 2, 2, 2, [2]int{0, 2}, [2]int{2, 3}},
		{4, 2, 2, 2, [2]int{0, 2}, [2]int{2, 4}},
		{7, 8, 1, 1, [2]int{0, 7}, [2]int{0, 7}},
		{8, 8, 1, 1, [2]int{0, 8}, [2]int{0, 8}},
		{9, 8, 2, 2, [2]int{0, 8}, [2]int{8, 9}},
		{63, 8, 2, 8, [2]int{0, 8}, [2]int{56, 63}},
		{64, 8, 2, 8, [2]int{0, 8}, [2]int{56, 64}},
		{65, 8, 3, 9, [2]int{0, 8}, [2]int{64, 65}},
		{65535, 2, 16, 32768, [2]int{0, 2}, [2]int{65534, 65535}},
		{65536, 2, 16, 32768, [2]int{0, 2}, [2]int{65534, 65536}},
		{65536, 3, 11, 21846, [2]int{0, 3}, [2]int{65535, 65536}},
		{65536, 4, 8, 16384, [2]int{0, 4}, [2]int{65532, 65536}},
		{65536, 5, 7, 13108, [2]int{0, 5}, [2]int{65535, 65536}},
		{65536, 6, 7, 10923, [2]int{0, 6}, [2]int{65532, 65536}},
		{65536, 7, 6, 9363, [2]int{0, 7}, [2]int{65534, 65536}},
		{65536, 8, 6, 8192, [2]int{0, 8}, [2]int{65528, 65536}},
	} {
		got := checkGroups(t, c.n, c.fan)
		if len(got) != c.groups || got[0] != c.first || got[len(got)-1] != c.last || Passes(c.n, c.fan) != c.passes {
			t.Errorf("Groups(%d, %d): %d, %v, Passes %d; want %v", c.n, c.fan, len(got), short(got), Passes(c.n, c.fan), c)
		}
	}
}

// P12.1: no groups, and no passes, of numbers and fans that may not be, the least and the greatest ints among them.
func TestNoGroups(t *testing.T) {
	none := func(n, fan int) {
		t.Helper()
		if got := checkGroups(t, n, fan); len(got) != 0 || Passes(n, fan) != 0 {
			t.Errorf("Groups(%d, %d) = %v, Passes %d; want nothing", n, fan, short(got), Passes(n, fan))
		}
	}
	for _, n := range badNumbers {
		for fan := -10; fan <= 20; fan++ {
			none(n, fan)
		}
		for _, fan := range badFans {
			none(n, fan)
		}
	}
	for _, fan := range badFans {
		for n := 1; n <= 20; n++ {
			none(n, fan)
		}
		for _, n := range []int{255, 256, 257, 65535, 65536} {
			none(n, fan)
		}
	}
}

// P12.1: each number of runs up to some, and with every fan those that it and its powers go into, and one more and less.
func TestNumbers(t *testing.T) {
	for fan := 2; fan <= 8; fan++ {
		for n := range 1200 {
			checkGroups(t, n, fan)
		}
		for power := 1; power <= 65536; power *= fan {
			for times := 1; times <= fan; times++ {
				for n := power*times - 1; n <= power*times+1; n++ {
					checkGroups(t, n, fan)
				}
			}
		}
		for n := 65536 - 20; n <= 65536+20; n++ {
			checkGroups(t, n, fan)
		}
	}
}

// P12.1: Passes at numbers of runs up to the most, more of them where they are small.
func TestPassesUpToTheMost(t *testing.T) {
	for fan := 2; fan <= 8; fan++ {
		for n := 1; n <= 65536; n += 1 + n/200 {
			if got, want := Passes(n, fan), expectPasses(n, fan); got != want {
				t.Fatalf("Passes(%d, %d) = %d; want %d", n, fan, got, want)
			}
		}
	}
}

// P12.1: groups follow each other without a gap, and are full but the last one; so many runs are there for the next pass, and Passes counts these.
func TestGroupsToTheEnd(t *testing.T) {
	for fan := 2; fan <= 8; fan++ {
		for _, n := range []int{1, 2, 3, 100, 255, 256, 257, 4095, 4096, 4097, 59049, 65535, 65536} {
			left, passes := n, 0
			for left > 1 {
				groups := checkGroups(t, left, fan)
				behind := 0
				for i, g := range groups {
					if g[0] != behind || g[1] <= g[0] || g[1]-g[0] != fan && i < len(groups)-1 || g[1]-g[0] > fan {
						t.Fatalf("Groups(%d, %d): %v at %d, behind %d", left, fan, g, i, behind)
					}
					behind = g[1]
				}
				if behind != left {
					t.Fatalf("Groups(%d, %d) end at %d", left, fan, behind)
				}
				left = len(groups)
				passes++
			}
			if got := Passes(n, fan); got != passes {
				t.Errorf("Passes(%d, %d) = %d; there are %d", n, fan, got, passes)
			}
		}
	}
}

// R3, R4: groups that were told are the caller's own.
func TestGroupsAreTheCallersOwn(t *testing.T) {
	got := Groups(5, 2)
	got[1] = [2]int{7, 8}
	_ = append(got[:1], [2]int{9, 9}, [2]int{9, 9}, [2]int{9, 9})
	checkGroups(t, 5, 2)
}

// fewest is how many passes are the least for each number of runs below a bound, whatever groups of at most fan runs each pass makes.
func fewest(bound, fan int) []int {
	least := make([]int, bound)
	for n := 2; n < bound; n++ {
		least[n] = math.MaxInt
		// Groups are at least so many that none has more than fan runs, and fewer than these, as a pass that leaves all n is of no use.
		for groups := 1; groups < n; groups++ {
			if groups*fan >= n {
				least[n] = min(least[n], 1+least[groups])
			}
		}
	}
	return least
}

// P12.3: passes are as few as they can be.
func TestFewest(t *testing.T) {
	for fan := 2; fan <= 8; fan++ {
		least := fewest(1500, fan)
		for n := 1; n < len(least); n++ {
			if got := Passes(n, fan); got != least[n] {
				t.Errorf("Passes(%d, %d) = %d; %d do", n, fan, got, least[n])
			}
		}
		// A power of the fan is how many runs one can come of at most; one more needs another pass.
		for passes, power := 0, 1; power <= 65536; passes, power = passes+1, power*fan {
			if got := Passes(power, fan); got != passes {
				t.Errorf("Passes(%d, %d) = %d; %d do", power, fan, got, passes)
			}
			if got := Passes(power+1, fan); power < 65536 && got != passes+1 {
				t.Errorf("Passes(%d, %d) = %d; %d are too few", power+1, fan, got, passes)
			}
		}
	}
}

// P12.2: a fan or a size that may not be, ahead of all else.
func TestFansAndSizes(t *testing.T) {
	fine, _ := samples(t, 9)
	full := many(9, encode(t, 1, entry("a", most)))
	for _, runs := range [][][]byte{nil, {}, fine[:1], fine, full, many(1, nil), many(256, nil), many(257, nil), many(5000, []byte{1}), many(257, fine[0])} {
		for fan := 2; fan <= 8; fan++ {
			for _, size := range badSizes {
				refused(t, "a size", runs, fan, size, api.ErrArg)
			}
		}
		for _, fan := range badFans {
			for _, size := range append(badSizes, sizes...) {
				refused(t, "a fan", runs, fan, size, api.ErrArg)
			}
		}
	}
	for size := 1; size <= 255; size++ {
		for fan := 2; fan <= 8; fan++ {
			if _, err := check(t, "fine", fine, fan, size); err != api.OK {
				t.Errorf("fan %d, size %d: %d", fan, size, err)
			}
		}
	}
}

// P12.2: of more than 256 runs ErrFull, whatever they are.
func TestTooMany(t *testing.T) {
	for fan := 2; fan <= 8; fan++ {
		for _, n := range []int{257, 258, 511, 512, 513, 65536, 65537, 70000} {
			for _, b := range append(noRuns(t), encode(t, 1), encode(t, 1, entry("a", 1)), encode(t, 1, entry("a", most))) {
				for _, size := range []int{1, 255} {
					if got, err := Merge(many(n, b), fan, size); len(got) != 0 || err != api.ErrFull {
						t.Errorf("%d runs, fan %d: %v, %d", n, fan, got, err)
					}
				}
			}
		}
		refused(t, "256 that are none", many(256, nil), fan, 1, api.ErrForm)
		refused(t, "256 with too much", many(256, encode(t, 1, entry("a", most))), fan, 1, api.ErrOver)
	}
	told(t, "256 of nothing", many(256, encode(t, 3)))
	told(t, "256 of a word", many(256, encode(t, 3, entry("a", 1))), entry("a", 256))
}

// P12.2: no runs, and one run, in blocks of whatever size, with its own error if it has one.
func TestNoneAndOne(t *testing.T) {
	told(t, "nil", nil)
	told(t, "none", [][]byte{})
	l := []api.Entry{entry("a", 3), entry("ab", most), entry("b\x00", 1), entry("ä", 1), entry("\xFF", 1)}
	for size := 1; size <= 255; size++ {
		told(t, "one", many(1, encode(t, size, l...)), l...)
		told(t, "one of nothing", many(1, encode(t, size)))
		told(t, "two of nothing", many(2, encode(t, size)))
	}
	for fan := 2; fan <= 8; fan++ {
		for _, size := range sizes {
			for _, b := range noRuns(t) {
				refused(t, "one that is none", many(1, b), fan, size, api.ErrForm)
			}
		}
	}
}

// P12.2, P12.3: each number of runs, in blocks of unlike sizes, with every fan.
func TestNumbersOfRuns(t *testing.T) {
	runs, _ := samples(t, 256)
	for n := range 257 {
		_, want := samples(t, n)
		for fan := 2; fan <= 8; fan++ {
			// Behind the fans' first powers, one fan for each number is enough.
			if n > 66 && fan != 2+n%7 {
				continue
			}
			size := sizes[n%len(sizes)]
			got, err := check(t, strconv.Itoa(n), runs[:n], fan, size)
			if !bytes.Equal(got, encode(t, size, want...)) || err != api.OK {
				t.Errorf("%d runs, fan %d: %v, %d", n, fan, short(got), err)
			}
		}
	}
	for _, n := range []int{2, 3, 7, 8, 9, 64, 65, 256} {
		some, want := samples(t, n)
		told(t, strconv.Itoa(n), some, want...)
		slices.Reverse(some)
		told(t, "the last one first", some, want...)
	}
}

// P12.2: bytes that are no run, at each place, of one group and of several.
func TestNoRuns(t *testing.T) {
	runs, _ := samples(t, 20)
	for n := 1; n <= len(runs); n++ {
		for at := range n {
			for fan := 2; fan <= 8; fan++ {
				for _, b := range noRuns(t) {
					refused(t, "at "+strconv.Itoa(at), with(runs[:n], at, b), fan, 2, api.ErrForm)
				}
			}
		}
	}
	runs, _ = samples(t, 256)
	for _, n := range []int{64, 65, 129, 255, 256} {
		for _, at := range []int{0, 1, 63, n / 2, n - 2, n - 1} {
			for fan := 2; fan <= 8; fan++ {
				refused(t, "at "+strconv.Itoa(at), with(runs[:n], at, []byte{1}), fan, 2, api.ErrForm)
			}
		}
	}
}

// P12.2: counts together at 2^62, and one more, in the first pass and in a later one.
func TestCounts(t *testing.T) {
	for _, n := range []int{2, 3, 8, 9, 10, 27, 64, 65, 100, 256} {
		for i, at := range []int{0, 1, n / 2, n - 1} {
			part := most / uint64(n)
			runs := many(n, encode(t, 1+i, entry("a", part), entry("b", 1)))
			told(t, "at the most", with(runs, at, encode(t, 7, entry("a", part+most%uint64(n)), entry("b", 1))), entry("a", most), entry("b", uint64(n)))
			above := with(runs, at, encode(t, 7, entry("a", part+most%uint64(n)+1), entry("b", 1)))
			for fan := 2; fan <= 8; fan++ {
				refused(t, "one more", above, fan, 1+i, api.ErrOver)
			}
		}
	}
	// Two that are too much together, at each two places: in one group, or in one of a later pass.
	rich, poor := encode(t, 2, entry("a", most/2+1), entry("b", 1)), encode(t, 1, entry("b", 1))
	for fan := 2; fan <= 8; fan++ {
		for one := range 20 {
			for two := one + 1; two < 20; two++ {
				runs := with(with(many(20, poor), one, rich), two, rich)
				refused(t, "two that are too much", runs, fan, 3, api.ErrOver)
				runs[two] = encode(t, 2, entry("a", most/2-1))
				if _, err := check(t, "two at the most", runs, fan, 3); err != api.OK {
					t.Errorf("two at the most: %d", err)
				}
			}
		}
	}
}

// P12.2: of several groups that are bad, in unlike ways, the first one's error; within one, that one's own.
func TestFirstOfSeveral(t *testing.T) {
	full, fine, bad := encode(t, 1, entry("a", most)), encode(t, 2, entry("b", 1)), []byte{1}
	for fan := 2; fan <= 8; fan++ {
		// over, good and wrong are full groups; over is too much, and wrong has bytes that are no run.
		good := many(fan, fine)
		over := with(with(good, 0, full), fan-1, full)
		for at := range fan {
			wrong := with(good, at, bad)
			refused(t, "over, wrong", slices.Concat(over, wrong), fan, 2, api.ErrOver)
			refused(t, "wrong, over", slices.Concat(wrong, over), fan, 2, api.ErrForm)
			refused(t, "good, over, wrong", slices.Concat(good, over, wrong), fan, 2, api.ErrOver)
			refused(t, "good, wrong, over", slices.Concat(good, wrong, over, good), fan, 2, api.ErrForm)
			refused(t, "over, good, wrong", slices.Concat(over, good, wrong, good), fan, 2, api.ErrOver)
			refused(t, "wrong, good, over", slices.Concat(wrong, good, over), fan, 2, api.ErrForm)
			refused(t, "over and wrong", slices.Concat(good, with(over, at, bad)), fan, 2, api.ErrForm)
			if at > 0 && at < fan-1 {
				refused(t, "over and wrong, over", slices.Concat(with(over, at, bad), over), fan, 2, api.ErrForm)
			}
		}
	}
}

// P12.2: bytes that are no run are told in the first pass, ahead of what is too much only in the next one: also where they stand last, in a group of their own.
func TestEarlierPass(t *testing.T) {
	full, fine, bad := encode(t, 1, entry("a", most)), encode(t, 2, entry("b", 1)), []byte{1}
	for fan := 2; fan <= 8; fan++ {
		good := many(fan, fine)
		rich := with(good, fan/2, full)
		later := slices.Concat(rich, rich, good)
		refused(t, "too much in the next pass", later, fan, 2, api.ErrOver)
		refused(t, "and one more run", append(slices.Clone(later), fine), fan, 2, api.ErrOver)
		refused(t, "and one that is none", append(slices.Clone(later), bad), fan, 2, api.ErrForm)
		for at := range later {
			refused(t, "one of them none", with(later, at, bad), fan, 2, api.ErrForm)
		}
		refused(t, "too much in the last group", append(slices.Clone(later), full, full), fan, 2, api.ErrOver)
	}
}

// R3: runs stay as they are, also what stands behind them in their memory, and share nothing with what is told.
func TestSharesNothing(t *testing.T) {
	one := encode(t, 3, entry("a", 1), entry("b", 2))
	room := append(bytes.Clone(one), "kept"...)
	rooms := [][]byte{room[:len(one)], bytes.Clone(one), []byte("kept")}
	for _, runs := range [][][]byte{rooms[:1], rooms[:2], {room[:len(one)], room[:len(one)], rooms[1]}} {
		got, _ := check(t, "within more memory", runs, 2, 3)
		want := bytes.Clone(got)
		clear(got)
		_ = append(got[:0], bytes.Repeat([]byte{255}, cap(got))...)
		if again, err := Merge(runs, 2, 3); !bytes.Equal(again, want) || err != api.OK {
			t.Errorf("what was told, turned: %v, %d; want %v", again, err, want)
		}
		if !bytes.Equal(room[:len(one)], one) || string(room[len(one):]) != "kept" || !bytes.Equal(rooms[1], one) || string(rooms[2]) != "kept" {
			t.Errorf("turned: %v, %v", room, rooms)
		}
	}
	got, _ := Merge(rooms[:1], 2, 3)
	clear(rooms[0])
	if !bytes.Equal(got, one) {
		t.Errorf("what was handed in, turned: %v; want %v", got, one)
	}
}

// R4: nothing is kept from call to call, also behind errors.
func TestKeepsNothing(t *testing.T) {
	runs, _ := samples(t, 30)
	want, _ := check(t, "first", runs, 3, 4)
	want = bytes.Clone(want)
	for fan := 2; fan <= 8; fan++ {
		refused(t, "none", with(runs, 29, nil), fan, 4, api.ErrForm)
		refused(t, "too much", many(30, encode(t, 1, entry("a", most))), fan, 4, api.ErrOver)
		refused(t, "too many", many(257, nil), fan, 4, api.ErrFull)
		refused(t, "no size", runs, fan, 0, api.ErrArg)
		if got, err := Merge(runs, 3, 4); !bytes.Equal(got, want) || err != api.OK {
			t.Errorf("again: %v, %d; want %v", got, err, want)
		}
	}
}

// random are n runs of words over few bytes, so that they often are the same.
func random(t *testing.T, r *rand.Rand, n, words int) [][]byte {
	t.Helper()
	runs := make([][]byte, n)
	for i := range runs {
		sums := map[string]uint64{}
		for range r.Intn(words + 1) {
			b := make([]byte, 1+r.Intn(4))
			for k := range b {
				b[k] = "\x00ab\xFF"[r.Intn(4)]
			}
			sums[string(b)] = 1 + r.Uint64()>>(4+r.Intn(60))
		}
		var l []api.Entry
		for word, sum := range sums {
			l = append(l, entry(word, sum))
		}
		slices.SortFunc(l, func(a, b api.Entry) int { return bytes.Compare([]byte(a.Word), []byte(b.Word)) })
		runs[i] = encode(t, 1+r.Intn(255), l...)
		if r.Intn(400) == 0 {
			runs[i][r.Intn(len(runs[i]))]++
		}
	}
	return runs
}

// P12.2, P12.3: runs by chance, with every fan; where none is bad, and no counts are too much, as all at once, and else an error, too.
func TestAny(t *testing.T) {
	r := rand.New(rand.NewSource(1222))
	for range 400 {
		runs, size := random(t, r, r.Intn(70), 1+r.Intn(20)), r.Intn(260)-1
		_, onceErr := loser.Runs(runs, max(size, 1))
		for fan := 1; fan <= 9; fan++ {
			_, err := check(t, "any", runs, fan, size)
			fits := 2 <= fan && fan <= 8 && 1 <= size && size <= 255
			if fits && (err == api.OK) != (onceErr == api.OK) {
				t.Errorf("fan %d: %d; all at once %d", fan, err, onceErr)
			}
		}
	}
}

// P1: many entries, in as many runs as can be, and in one that is long among short ones.
func TestMany(t *testing.T) {
	lists := make([][]api.Entry, 256)
	for i := range 40000 {
		at := i * 7 % len(lists)
		lists[at] = append(lists[at], entry("w"+strconv.Itoa(1000000+i/2), 1))
	}
	var runs [][]byte
	for i, l := range lists {
		runs = append(runs, encode(t, 1+i%255, l...))
	}
	var long []api.Entry
	for i := range 40000 {
		long = append(long, entry("w"+strconv.Itoa(1000000+i), 1))
	}
	for _, fan := range []int{2, 3, 8} {
		check(t, "as many as can be", runs, fan, 255)
		check(t, "a long one", with(runs[:20], 19, encode(t, 100, long...)), fan, 1)
	}
}

// P1, P12.1, P12.3: any numbers.
func FuzzGroups(f *testing.F) {
	f.Add(5, 2)
	f.Add(65536, 8)
	f.Add(math.MaxInt, 2)
	f.Fuzz(func(t *testing.T, n, fan int) {
		checkGroups(t, n, fan)
		checkGroups(t, n&0x1FFFF, fan&15)
	})
}

// P1, P12.2, P12.3: any runs, each told by a byte: that is a run of one word and its count, small or near its bound, of nothing, or bytes that are none.
func FuzzMerge(f *testing.F) {
	f.Add([]byte("\x01\x02\x03"), 2, 3)
	f.Add([]byte("\xF0\x01\x02\xF0\xFF"), 2, 255)
	f.Add([]byte("\x01\xFF\xFF"), 8, 256)
	f.Fuzz(func(t *testing.T, b []byte, fan, size int) {
		var runs [][]byte
		for i, c := range b {
			switch word := string([]byte{'a' + c%4}); {
			case c == 255:
				runs = append(runs, b[i:])
			case c == 254:
				runs = append(runs, encode(t, 1))
			case c >= 200:
				runs = append(runs, encode(t, 2, entry(word, most-uint64(c-200)*(most/64))))
			default:
				runs = append(runs, encode(t, int(c)+1, entry(word, uint64(c)+1), entry("z", 1)))
			}
		}
		check(t, "any", runs, fan, size)
		for fan := 2; fan <= 8; fan++ {
			check(t, "every fan", runs, fan, size&255)
		}
	})
}
