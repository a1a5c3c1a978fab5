package pack_test

import (
	"fmt"
	"math"
	"slices"
	"strings"
	"testing"

	"virama/api"
	"virama/pack"
	"virama/trie"
)

// The document's words, written out again.

// two are a number's bytes: the whole of it through 256, and what is left.
func two(n int) string {
	return string([]byte{byte(n / 256), byte(n % 256)})
}

func sumOf(s string) int {
	sum := uint16(0)
	for _, b := range []byte(s) {
		sum += uint16(b)
	}
	return int(sum)
}

// sealed is what stands ahead of a sum, and the sum.
func sealed(s string) string {
	return s + two(sumOf(s))
}

func runsOf(l []int) [][2]int {
	var all [][2]int
	for i, n := range l {
		if i == 0 || l[i-1] != n {
			all = append(all, [2]int{0, n})
		}
		all[len(all)-1][0]++
	}
	return all
}

// blockOf is what a block is packed as.
func blockOf(b []int) string {
	var s strings.Builder
	for _, x := range runsOf(b) {
		s.Write([]byte{byte(x[0] - 1), byte(x[1])})
	}
	return s.String()
}

// indexOf is what Index is packed as.
func indexOf(l []int) string {
	var s strings.Builder
	for _, x := range runsOf(l) {
		s.WriteString(two(x[0]-1) + two(x[1]))
	}
	return s.String()
}

// packOf is what a trie is packed as that is right, and has not too many blocks.
func packOf(x api.Trie) string {
	var s strings.Builder
	s.WriteString("VT1" + two(len(x.Blocks)))
	for _, b := range x.Blocks {
		s.WriteString(blockOf(b))
	}
	return sealed(s.String() + indexOf(x.Index))
}

// spreadOf is what the bytes say that stand next, if they say so many numbers, of so many bytes each, and what is behind them.
func spreadOf(s string, size, bytes int) ([]int, string, bool) {
	var l []int
	number := func(at int) int {
		n := 0
		for i := range bytes {
			n = n*256 + int(s[at+i])
		}
		return n
	}
	for len(l) < size && len(s) >= 2*bytes {
		n := number(0) + 1
		if n > size {
			return nil, "", false
		}
		l = append(l, slices.Repeat([]int{number(bytes)}, n)...)
		s = s[2*bytes:]
	}
	return l, s, len(l) == size
}

// trieOf is the trie of which these are the bytes, if there is one.
func trieOf(s string) (api.Trie, bool) {
	var x api.Trie
	rest := s[5 : len(s)-2]
	for range int(s[3])*256 + int(s[4]) {
		b, behind, ok := spreadOf(rest, 256, 1)
		if !ok {
			return x, false
		}
		x.Blocks, rest = append(x.Blocks, b), behind
	}
	l, _, ok := spreadOf(rest, 4352, 2)
	x.Index = l
	return x, ok && trie.Right(x) && len(x.Blocks) <= 300 && packOf(x) == s
}

func loadOf(s string) (api.Trie, api.Errno) {
	if len(s) < 7 || s[:3] != "VT1" {
		return api.Trie{}, api.ErrPack
	}
	if sealed(s[:len(s)-2]) != s {
		return api.Trie{}, api.ErrSum
	}
	if x, ok := trieOf(s); ok {
		return x, api.OK
	}
	return api.Trie{}, api.ErrPack
}

// wantPack asks whether a trie is packed as it has to be, and loaded as it was.
func wantPack(t *testing.T, name string, x api.Trie) {
	t.Helper()
	want := packOf(x)
	if s, e := pack.Pack(x); s != want || e != api.OK {
		t.Fatalf("%s: Pack = %q, %d, wanted %q", name, s, e, want)
	}
	if n, e := pack.Size(x); n != len(want) || e != api.OK {
		t.Fatalf("%s: Size = %d, %d, wanted %d", name, n, e, len(want))
	}
	y, e := pack.Load(want)
	if e != api.OK || !trie.Same(x, y) {
		t.Fatalf("%s: Load = %d, with %d rows and %d blocks", name, e, len(y.Index), len(y.Blocks))
	}
	if s, e := pack.Pack(y); s != want || e != api.OK {
		t.Fatalf("%s: Pack of what was loaded = %q, %d, wanted %q", name, s, e, want)
	}
}

// wantNoPack asks for an error of Pack, and of Size.
func wantNoPack(t *testing.T, name string, x api.Trie, want api.Errno) {
	t.Helper()
	if s, e := pack.Pack(x); s != "" || e != want {
		t.Errorf("%s: Pack = %.30q, %d, wanted %d", name, s, e, want)
	}
	if n, e := pack.Size(x); n != 0 || e != want {
		t.Errorf("%s: Size = %d, %d, wanted %d", name, n, e, want)
	}
}

// wantLoad asks whether Load is what the document's words say, and whether what is loaded is packed as it was; it tells the error.
func wantLoad(t *testing.T, s string) api.Errno {
	t.Helper()
	want, wrong := loadOf(s)
	x, e := pack.Load(s)
	if e != wrong || !trie.Same(x, want) {
		t.Fatalf("Load(%.80q) = %d, with %d rows and %d blocks, wanted %d", s, e, len(x.Index), len(x.Blocks), wrong)
	}
	if e != api.OK {
		return e
	}
	if p, f := pack.Pack(x); p != s || f != api.OK {
		t.Fatalf("Pack of Load(%.80q) = %.80q, %d", s, p, f)
	}
	return e
}

// wantRefused asks that Load refuses.
func wantRefused(t *testing.T, name, s string, want api.Errno) {
	t.Helper()
	if x, e := pack.Load(s); e != want || len(x.Index) != 0 || len(x.Blocks) != 0 {
		t.Errorf("%s: Load(%.80q) = %d, with %d rows and %d blocks, wanted %d", name, s, e, len(x.Index), len(x.Blocks), want)
	}
}

// like is a block of one value, but for those at the places told.
func like(v int, others map[int]int) []int {
	b := slices.Repeat([]int{v}, 256)
	for i, w := range others {
		b[i] = w
	}
	return b
}

// laid is a trie of blocks in which each row has block 0, but for those told.
func laid(rows map[int]int, blocks ...[]int) api.Trie {
	x := api.Trie{Index: make([]int, 4352), Blocks: blocks}
	for i, at := range rows {
		x.Index[i] = at
	}
	return x
}

// many is a trie of n blocks, of which no two neighbours are the same, each with rows of its own.
func many(n int) api.Trie {
	x := laid(nil)
	for i := range n {
		x.Blocks = append(x.Blocks, like(i%32, map[int]int{i % 256: (i + 1) % 32}))
	}
	for i := range x.Index {
		x.Index[i] = i % n
	}
	return x
}

// draws is a source of numbers, the same ones each time.
func draws(seed uint64) func(int) int {
	return func(n int) int {
		seed = seed*6364136223846793005 + 1442695040888963407
		return int(seed >> 33 % uint64(n))
	}
}

// drawn are n numbers less than most, by few or by many runs.
func drawn(draw func(int) int, n, most, long int) []int {
	var l []int
	for len(l) < n {
		x := draw(most)
		for range 1 + draw(long) {
			l = append(l, x)
		}
	}
	return l[:n]
}

// P7.1: the document's example, by hand.
func TestExample(t *testing.T) {
	want := "VT1" + "\x00\x01" + "\xff\x00" + "\x10\xff\x00\x00" + "\x02\xea"
	x := laid(nil, like(0, nil))
	if s, e := pack.Pack(x); s != want || e != api.OK {
		t.Errorf("%q, %d", s, e)
	}
	if n, e := pack.Size(x); n != 13 || e != api.OK {
		t.Error(n, e)
	}
	if y, e := pack.Load(want); !trie.Same(x, y) || e != api.OK {
		t.Error(y, e)
	}
}

// P7.1: other tries, by hand.
func TestPacksByHand(t *testing.T) {
	zero := like(0, nil)
	for _, c := range []struct {
		x    api.Trie
		want string
	}{
		{laid(nil, like(31, nil)), "VT1\x00\x01" + "\xff\x1f" + "\x10\xff\x00\x00"},
		{laid(nil, zero, zero), "VT1\x00\x02" + "\xff\x00" + "\xff\x00" + "\x10\xff\x00\x00"},
		{laid(map[int]int{0: 1}, zero, zero), "VT1\x00\x02" + "\xff\x00" + "\xff\x00" + "\x00\x00\x00\x01" + "\x10\xfe\x00\x00"},
		{laid(map[int]int{4351: 1}, zero, zero), "VT1\x00\x02" + "\xff\x00" + "\xff\x00" + "\x10\xfe\x00\x00" + "\x00\x00\x00\x01"},
		{laid(map[int]int{3: 1}, zero, like(0, map[int]int{0: 1})), "VT1\x00\x02" + "\xff\x00" + "\x00\x01\xfe\x00" + "\x00\x02\x00\x00" + "\x00\x00\x00\x01" + "\x10\xfb\x00\x00"},
		{laid(map[int]int{3: 1, 4: 1}, zero, like(0, map[int]int{255: 1})), "VT1\x00\x02" + "\xff\x00" + "\xfe\x00\x00\x01" + "\x00\x02\x00\x00" + "\x00\x01\x00\x01" + "\x10\xfa\x00\x00"},
		{laid(nil, like(1, map[int]int{100: 9, 101: 9, 102: 8})), "VT1\x00\x01" + "\x63\x01\x01\x09\x00\x08\x98\x01" + "\x10\xff\x00\x00"},
	} {
		if s, e := pack.Pack(c.x); s != sealed(c.want) || e != api.OK {
			t.Errorf("%q, %d, wanted %q", s, e, sealed(c.want))
		}
		wantPack(t, fmt.Sprintf("%q", c.want), c.x)
	}
}

// P7.1, P7.3: blocks in which a value begins, and ends, at each place, and each value.
func TestBlocks(t *testing.T) {
	for i := range 256 {
		v := i % 32
		for _, b := range [][]int{
			like(v, nil),
			like(v, map[int]int{i: 31 - v}),
			slices.Concat(slices.Repeat([]int{v}, i), slices.Repeat([]int{31 - v}, 256-i)),
		} {
			wantPack(t, fmt.Sprint("a block ", i), laid(map[int]int{17 * i: 1}, like(0, nil), b))
		}
	}
	each := make([]int, 256)
	for i := range each {
		each[i] = i * 11 % 32
	}
	wantPack(t, "runs of one", laid(nil, each))
}

// P7.1, P7.3: runs of rows as long as told, and where their bytes turn.
func TestIndexes(t *testing.T) {
	x := many(300)
	for _, n := range []int{1, 2, 3, 255, 256, 257, 511, 512, 513, 4095, 4096, 4097, 4350, 4351} {
		for _, at := range []int{1, 2, 127, 128, 255, 256, 257, 299} {
			x.Index = slices.Concat(slices.Repeat([]int{at}, n), slices.Repeat([]int{at - 1}, 4352-n))
			wantPack(t, fmt.Sprint(n, " rows have block ", at), x)
			slices.Reverse(x.Index)
			wantPack(t, fmt.Sprint(n, " last rows have block ", at), x)
		}
	}
	for at := range 300 {
		x.Index = slices.Repeat([]int{at}, 4352)
		wantPack(t, fmt.Sprint("all rows have block ", at), x)
	}
}

// P7.1, P7.3: as many blocks as a pack may have, and less; more are too many, as many as there may be of them.
func TestSoManyBlocks(t *testing.T) {
	for _, n := range []int{1, 2, 3, 4, 31, 32, 33, 127, 128, 254, 255, 256, 257, 258, 298, 299, 300} {
		wantPack(t, fmt.Sprint(n, " blocks"), many(n))
		x := laid(nil, slices.Repeat([][]int{like(7, map[int]int{3: 0})}, n)...)
		wantPack(t, fmt.Sprint(n, " same blocks"), x)
	}
	for _, n := range []int{301, 302, 511, 512, 556, 600, 4352, 65535, 65536, 65537, 65836} {
		x := laid(nil, slices.Repeat([][]int{like(0, nil)}, n)...)
		wantNoPack(t, fmt.Sprint(n, " blocks"), x, api.ErrPack)
		x.Index[4351] = n - 1
		wantNoPack(t, fmt.Sprint(n, " blocks, the last one used"), x, api.ErrPack)
	}
}

// P7.1: blocks that stand again are packed again, neighbours or not.
func TestSameBlocks(t *testing.T) {
	a, b, c := like(1, map[int]int{9: 2}), like(1, map[int]int{9: 3}), like(1, nil)
	for _, blocks := range [][][]int{{a, a}, {a, b, a}, {a, b, c, a, b, c}, {c, c, a, a, b, b, a, a, c, c}, {a, b, b, a}} {
		wantPack(t, "same blocks", laid(map[int]int{5: len(blocks) - 1}, blocks...))
	}
}

// P7.1: tries that are not right, also such as have too many blocks.
func TestWrongTries(t *testing.T) {
	for name, x := range map[string]api.Trie{
		"nothing":           {},
		"empty lists":       {Index: []int{}, Blocks: [][]int{}},
		"no blocks":         laid(nil),
		"no rows":           {Blocks: [][]int{like(0, nil)}},
		"4351 rows":         {Index: make([]int, 4351), Blocks: [][]int{like(0, nil)}},
		"4353 rows":         {Index: make([]int, 4353), Blocks: [][]int{like(0, nil)}},
		"block -1":          laid(map[int]int{0: -1}, like(0, nil)),
		"block 1 of 1":      laid(map[int]int{4351: 1}, like(0, nil)),
		"block 65536":       laid(map[int]int{4351: 65536}, like(0, nil)),
		"block 300 of 300":  laid(map[int]int{4351: 300}, many(300).Blocks...),
		"the least block":   laid(map[int]int{1: math.MinInt}, like(0, nil)),
		"the greatest":      laid(map[int]int{1: math.MaxInt}, like(0, nil)),
		"255 values":        laid(nil, make([]int, 255)),
		"257 values":        laid(nil, make([]int, 257)),
		"no values":         laid(nil, nil),
		"no values, behind": laid(nil, like(0, nil), nil),
		"value 32":          laid(nil, like(0, map[int]int{255: 32})),
		"value -1":          laid(nil, like(0, map[int]int{0: -1})),
		"value 256":         laid(nil, like(0, map[int]int{0: 256})),
		"value 2^32":        laid(nil, like(0, nil), like(0, map[int]int{7: 1 << 32})),
		"the least value":   laid(nil, like(math.MinInt, nil)),
	} {
		if trie.Right(x) {
			t.Fatal(name, "is right")
		}
		wantNoPack(t, name, x, api.ErrTrie)
		x.Blocks = append(slices.Clone(x.Blocks), slices.Repeat([][]int{like(0, nil)}, 301)...)
		if !trie.Right(x) {
			wantNoPack(t, name+", and too many blocks", x, api.ErrTrie)
		}
	}
	x := laid(nil, slices.Repeat([][]int{like(0, nil)}, 301)...)
	x.Blocks[300] = like(32, nil)
	wantNoPack(t, "301 blocks, the last one wrong", x, api.ErrTrie)
	x.Blocks[300] = make([]int, 1)
	wantNoPack(t, "301 blocks, the last one short", x, api.ErrTrie)
	x = laid(map[int]int{4351: 301}, slices.Repeat([][]int{like(0, nil)}, 301)...)
	wantNoPack(t, "301 blocks, row 4351 has another", x, api.ErrTrie)
}

// P7.1: sums, by hand, and of all short texts of some bytes.
func TestSum(t *testing.T) {
	for _, c := range []struct {
		s    string
		want int
	}{
		{"", 0}, {"\x00", 0}, {"\x01", 1}, {"\xff", 255}, {"a", 97}, {"abc", 294}, {"VT1", 219}, {"\xff\x01", 256}, {"€", 0xe2 + 0x82 + 0xac}, {"\xff\xfe\xc0", 0x2bd},
		{strings.Repeat("\xff", 256), 65280}, {strings.Repeat("\xff", 257), 65535}, {strings.Repeat("\xff", 257) + "\x01", 0}, {strings.Repeat("\xff", 257) + "\x02", 1},
		{strings.Repeat("\xff", 258), 254}, {strings.Repeat("\x01", 65535), 65535}, {strings.Repeat("\x01", 65536), 0}, {strings.Repeat("\x01", 65537), 1},
		{strings.Repeat("\x80", 512), 0}, {strings.Repeat("\x80", 1<<20), 0}, {strings.Repeat("\xff", 1<<20), 0}, {strings.Repeat("\xff", 1<<20+1), 255},
	} {
		if n := pack.Sum(c.s); n != c.want {
			t.Errorf("Sum(%.20q of %d) = %d, wanted %d", c.s, len(c.s), n, c.want)
		}
	}
	for a := range 256 {
		for b := range 256 {
			if n := pack.Sum(string([]byte{byte(a), byte(b)})); n != a+b {
				t.Fatal(a, b, n)
			}
		}
	}
	draw := draws(7)
	for n := range 600 {
		b := make([]byte, n*3)
		for i := range b {
			b[i] = byte(draw(256))
		}
		if x := pack.Sum(string(b)); x != sumOf(string(b)) {
			t.Fatal(n, x)
		}
	}
}

// P7.1: runs by hand, of any numbers.
func TestRunsByHand(t *testing.T) {
	least, most := math.MinInt, math.MaxInt
	for _, c := range []struct {
		l    []int
		want [][2]int
	}{
		{nil, nil},
		{[]int{}, nil},
		{[]int{0}, [][2]int{{1, 0}}},
		{[]int{0, 0}, [][2]int{{2, 0}}},
		{[]int{7, 7, 7}, [][2]int{{3, 7}}},
		{[]int{1, 2}, [][2]int{{1, 1}, {1, 2}}},
		{[]int{5, 5, 0, 5}, [][2]int{{2, 5}, {1, 0}, {1, 5}}},
		{[]int{0, 1, 1}, [][2]int{{1, 0}, {2, 1}}},
		{[]int{-1, -1, 1}, [][2]int{{2, -1}, {1, 1}}},
		{[]int{0, 256, 65536, 1 << 32}, [][2]int{{1, 0}, {1, 256}, {1, 65536}, {1, 1 << 32}}},
		{[]int{least, least, least + 1, most, most, most - 1}, [][2]int{{2, least}, {1, least + 1}, {2, most}, {1, most - 1}}},
		{make([]int, 256), [][2]int{{256, 0}}},
		{make([]int, 257), [][2]int{{257, 0}}},
		{make([]int, 65537), [][2]int{{65537, 0}}},
		{slices.Repeat([]int{-3}, 1<<20), [][2]int{{1 << 20, -3}}},
	} {
		if l := pack.Runs(c.l); !slices.Equal(l, c.want) {
			t.Errorf("Runs(%.20v) = %v, wanted %v", c.l, l, c.want)
		}
	}
}

// P7.1: runs of all short lists of some numbers.
func TestRuns(t *testing.T) {
	var ask func(l []int)
	ask = func(l []int) {
		if got := pack.Runs(l); !slices.Equal(got, runsOf(l)) {
			t.Fatalf("Runs(%v) = %v", l, got)
		}
		for _, n := range []int{0, 1, -1} {
			if len(l) < 8 {
				ask(append(l, n))
			}
		}
	}
	ask(nil)
	draw := draws(3)
	for n := range 300 {
		l := drawn(draw, n*7, 3, 1+n)
		if got := pack.Runs(l); !slices.Equal(got, runsOf(l)) {
			t.Fatalf("Runs(%v) = %v", l, got)
		}
	}
}

// P7.3: tries of few and of many blocks, of short and of long runs.
func TestManyTries(t *testing.T) {
	for seed := range 200 {
		draw := draws(uint64(seed))
		n := 1 + draw([]int{1, 3, 20, 300}[seed%4])
		x := api.Trie{Index: drawn(draw, 4352, n, []int{1, 3, 300, 4352}[draw(4)])}
		for range n {
			x.Blocks = append(x.Blocks, drawn(draw, 256, 32, []int{1, 4, 90, 256}[draw(4)]))
		}
		wantPack(t, fmt.Sprint("trie ", seed), x)
	}
	for _, l := range [][]api.Range{nil, {{From: 0x300, To: 0x36f, Value: 1}}, {{From: 0, To: 0x10ffff, Value: 31}}, {{From: 0xff, To: 0x10ff00, Value: 3}, {From: 0x10ffff, To: 0x10ffff, Value: 4}}} {
		x, _ := trie.Build(l)
		wantPack(t, "a map's trie", x)
	}
}

// some are packs that are not all alike.
func some() []string {
	zero := like(0, nil)
	return []string{
		packOf(laid(nil, zero)),
		packOf(laid(map[int]int{3: 1}, zero, like(0, map[int]int{0: 5, 255: 31}))),
		packOf(laid(map[int]int{0: 2, 1: 2, 4351: 1}, like(1, nil), like(0, map[int]int{7: 1, 8: 1}), like(1, nil))),
	}
}

// P7.2: what is shorter than a pack may be, or does not begin as one, by hand.
func TestWhatBeginsAsNoPack(t *testing.T) {
	for _, s := range []string{"", "V", "VT", "VT1", "VT1\x00", "VT1\x00\x00", "VT1\x00\x01", "VT1\x00\x00\x00", "VT1\x00\x00\xdb", "\x00\x00\x00\x00\x00\x00", "VT1VT1",
		sealed(""), sealed("V"), sealed("VT1"), sealed("VT1\x00"), sealed("VT0\x00\x00"), sealed("VT2\x00\x00"), sealed("vt1\x00\x00"), sealed("VT\x01\x00\x00"), sealed(" VT1\x00\x00"),
		sealed("\x00\x01\xff\x00\x10\xff\x00\x00"), sealed("1TV\x00\x01\xff\x00\x10\xff\x00\x00"), strings.Repeat("\x00", 1000), "VT2\x00\x01\xff\x00\x10\xff\x00\x00\x00\x00"} {
		wantRefused(t, "no pack", s, api.ErrPack)
	}
	for _, p := range some() {
		for i := range 3 {
			for b := range 256 {
				if byte(b) == p[i] {
					continue
				}
				s := p[:i] + string([]byte{byte(b)}) + p[i+1:]
				wantRefused(t, "another beginning", s, api.ErrPack)
				wantRefused(t, "another beginning, and its sum", sealed(s[:len(s)-2]), api.ErrPack)
			}
		}
	}
}

// P7.2: what has another sum, ahead of what else is wrong.
func TestOtherSums(t *testing.T) {
	for _, p := range some() {
		at := len(p) - 2
		for n := range 65536 {
			if s := p[:at] + two(n); s != p {
				wantRefused(t, "another sum", s, api.ErrSum)
			}
		}
		wantRefused(t, "the sum turned about", p[:at]+p[at+1:]+p[at:at+1], api.ErrSum)
		wantRefused(t, "a byte behind", p+"\x00", api.ErrSum)
		wantRefused(t, "the sum again, of itself too", p+p[at:], api.ErrSum)
	}
	for _, s := range []string{"VT1\x00\x00\x00\x00", "VT1\x00\x00\x00\xdc", "VT1\x00\x00\xdb\x00", "VT1\xff\xff\x00\x00", "VT1\x01\x2d\x00\x00", "VT1\x00\x01\xff\x20\x10\xff\x00\x00\x00\x00", "VT1VT1VT1", "VT1" + strings.Repeat("\xff", 70000)} {
		wantRefused(t, "another sum", s, api.ErrSum)
	}
}

// P7.2: what begins as a pack, and has its sum, and is none, by hand.
func TestWhatIsNoTriesBytes(t *testing.T) {
	block, index := "\xff\x00", "\x10\xff\x00\x00"
	for name, s := range map[string]string{
		"nothing":                       "",
		"nothing but a block's count":   "\x00\x01",
		"no blocks":                     "\x00\x00",
		"no blocks, but Index":          "\x00\x00" + index,
		"a block, but none counted":     "\x00\x00" + block + index,
		"two blocks of one":             "\x00\x01" + block + block + index,
		"one block of two":              "\x00\x02" + block + index,
		"so many blocks turned about":   "\x01\x00" + block + index,
		"301 blocks":                    "\x01\x2d" + strings.Repeat(block, 301) + index,
		"512 blocks":                    "\x02\x00" + strings.Repeat(block, 512) + index,
		"65535 blocks":                  "\xff\xff" + strings.Repeat(block, 65535) + index,
		"no Index":                      "\x00\x01" + block,
		"half of Index":                 "\x00\x01" + block + "\x10\xff",
		"Index without a last byte":     "\x00\x01" + block + "\x10\xff\x00",
		"Index and a byte":              "\x00\x01" + block + index + "\x00",
		"Index and a run":               "\x00\x01" + block + index + "\x00\x00\x00\x00",
		"Index twice":                   "\x00\x01" + block + index + index,
		"4351 rows":                     "\x00\x01" + block + "\x10\xfe\x00\x00",
		"4353 rows":                     "\x00\x01" + block + "\x11\x00\x00\x00",
		"65536 rows":                    "\x00\x01" + block + "\xff\xff\x00\x00",
		"4352 rows by two runs":         "\x00\x01" + block + "\x08\x7f\x00\x00\x08\x7f\x00\x00",
		"4352 rows and one by two runs": "\x00\x02" + block + block + "\x10\xfe\x00\x00\x00\x01\x00\x01",
		"a block that there is not":     "\x00\x01" + block + "\x10\xff\x00\x01",
		"block 256 of one":              "\x00\x01" + block + "\x10\xff\x01\x00",
		"Index turned about":            "\x00\x01" + block + "\xff\x10\x00\x00",
		"value 32":                      "\x00\x01" + "\xff\x20" + index,
		"value 255":                     "\x00\x01" + "\xff\xff" + index,
		"value 32 of a block not used":  "\x00\x02" + block + "\xff\x20" + index,
		"255 values":                    "\x00\x01" + "\xfe\x00" + index,
		"257 values":                    "\x00\x01" + "\xfe\x00\x01\x01" + index,
		"256 values by two runs":        "\x00\x01" + "\x7f\x00\x7f\x00" + index,
		"256 values, a run goes on":     "\x00\x01" + "\x00\x01\x00\x02\x00\x02\xfc\x03" + index,
		"a block turned about":          "\x00\x01" + "\x00\xff" + index,
		"a block of one byte":           "\x00\x01" + "\xff" + index,
		"index ahead of the block":      "\x00\x01" + index + block,
	} {
		wantRefused(t, name, sealed("VT1"+s), api.ErrPack)
		wantLoad(t, sealed("VT1"+s))
	}
}

// P7.2, P7.3: packs with each byte changed to each other, left out, put between, doubled, with the sum as it was, and as it has to be.
func TestChangedPacks(t *testing.T) {
	found := map[api.Errno]int{}
	ask := func(s string) {
		found[wantLoad(t, s)]++
		if len(s) >= 2 {
			found[wantLoad(t, sealed(s[:len(s)-2]))]++
		}
	}
	for _, p := range some() {
		for i := range len(p) + 1 {
			ask(p[:i])
			ask(p[i:])
			ask(p[:i] + "\x00\x00")
			for b := range 256 {
				x := string([]byte{byte(b)})
				if b < 4 || b > 253 || b == 0x10 || b == 0x1f || b == 0x20 {
					ask(p[:i] + x + p[i:])
				}
				if i < len(p) {
					ask(p[:i] + x + p[i+1:])
				}
			}
			for j := i + 1; j <= len(p); j++ {
				ask(p[:i] + p[j:])
				ask(p[:j] + p[i:])
			}
		}
	}
	if found[api.OK] < 100 || found[api.ErrPack] < 1000 || found[api.ErrSum] < 1000 || len(found) != 3 {
		t.Error("not enough of each:", found)
	}
}

// P7.2, P7.3: each run of a pack cut in two, and each two neighbours made one value: only the right runs are a trie's bytes.
func TestRunsThatGoOn(t *testing.T) {
	b := like(4, map[int]int{0: 1, 1: 1, 2: 2, 100: 3, 200: 9, 201: 9, 255: 0})
	var index []int
	for i := range 17 {
		index = append(index, slices.Repeat([]int{i % 3}, 256)...)
	}
	join := func(all [][2]int, bytes int) string {
		var s strings.Builder
		for _, x := range all {
			n, v := two(x[0]-1), two(x[1])
			s.WriteString(n[2-bytes:] + v[2-bytes:])
		}
		return s.String()
	}
	wantBoth := func(name string, ok bool, block, rows [][2]int) {
		t.Helper()
		s := sealed("VT1\x00\x03" + join(runsOf(b), 1) + join(block, 1) + join(runsOf(b), 1) + join(rows, 2))
		if e := wantLoad(t, s); ok != (e == api.OK) {
			t.Error(name, e)
		}
	}
	block, rows := runsOf(b), runsOf(index)
	wantBoth("as they are", true, block, rows)
	cut := func(all [][2]int, i, n int) [][2]int {
		return slices.Concat(all[:i], [][2]int{{n, all[i][1]}, {all[i][0] - n, all[i][1]}}, all[i+1:])
	}
	for i, x := range block {
		for n := 1; n < x[0]; n++ {
			wantBoth(fmt.Sprint("block's run ", i, " cut at ", n), false, cut(block, i, n), rows)
		}
		if i > 0 {
			same := slices.Clone(block)
			same[i][1] = same[i-1][1]
			wantBoth(fmt.Sprint("block's run ", i, " as the one ahead"), false, same, rows)
		}
	}
	for i, x := range rows {
		for n := 1; n < x[0]; n += 17 {
			wantBoth(fmt.Sprint("row's run ", i, " cut at ", n), false, block, cut(rows, i, n))
		}
		if i > 0 {
			same := slices.Clone(rows)
			same[i][1] = same[i-1][1]
			wantBoth(fmt.Sprint("row's run ", i, " as the one ahead"), false, block, same)
		}
	}
}

// P7.2, P7.3: great packs, cut off at places all over, and with bytes changed.
func TestGreatPacks(t *testing.T) {
	draw := draws(11)
	x := api.Trie{Index: drawn(draw, 4352, 300, 2)}
	for range 300 {
		x.Blocks = append(x.Blocks, drawn(draw, 256, 32, 2))
	}
	p := packOf(x)
	if len(p) < 100000 || len(x.Blocks) != 300 {
		t.Fatal(len(p))
	}
	wantPack(t, "a great one", x)
	for i := 0; i < len(p); i += 4099 {
		wantLoad(t, p[:i])
		wantLoad(t, sealed(p[:i]))
		wantLoad(t, sealed(p[:i]+"\x00"+p[i+1:len(p)-2]))
	}
	most := many(300)
	for i := range most.Blocks {
		for j := range most.Blocks[i] {
			most.Blocks[i][j] = (i + j*3) % 32
		}
	}
	wantPack(t, "the greatest", most)
	if n, e := pack.Size(most); n != 3+2+300*512+4352*4+2 || e != api.OK {
		t.Error(n, e)
	}
}

// lists are all those of a trie, with their spare room.
func lists(x api.Trie) [][]int {
	l := [][]int{x.Index[:cap(x.Index)]}
	for _, b := range x.Blocks[:cap(x.Blocks)] {
		l = append(l, b[:cap(b)])
	}
	return l
}

// R3: what is loaded is new, its spare room too, and no two lists of it share any.
func TestLoadedTriesAreNew(t *testing.T) {
	b := like(4, map[int]int{3: 1})
	want := laid(map[int]int{9: 2}, b, b, like(0, nil), b)
	s := packOf(want)
	first, _ := pack.Load(s)
	second, _ := pack.Load(s)
	for i := range second.Blocks[:cap(second.Blocks)] {
		l := second.Blocks[:cap(second.Blocks)][i]
		for j := range l[:cap(l)] {
			l[:cap(l)][j] = -5
		}
		second.Blocks[:cap(second.Blocks)][i] = nil
	}
	for i := range second.Index[:cap(second.Index)] {
		second.Index[:cap(second.Index)][i] = -5
	}
	if third, e := pack.Load(s); !trie.Same(first, want) || !trie.Same(third, want) || e != api.OK {
		t.Error("two answers share memory")
	}
	all := lists(first)
	for i, a := range all {
		before := slices.Clone(a)
		for j, b := range all {
			for k := range b {
				if i != j {
					b[k]++
				}
			}
		}
		if !slices.Equal(a, before) {
			t.Fatal("lists share memory:", i)
		}
	}
}

// R3: answered runs are new each time, their spare room too.
func TestAnsweredRunsAreNew(t *testing.T) {
	l := []int{1, 1, 2, 3, 3}
	want := [][2]int{{2, 1}, {1, 2}, {2, 3}}
	first, second := pack.Runs(l), pack.Runs(l)
	for i := range second[:cap(second)] {
		second[:cap(second)][i] = [2]int{-1, -1}
	}
	for i := range l {
		l[i] = 0
	}
	if !slices.Equal(first, want) {
		t.Error("two answers share memory:", first)
	}
}

// R3: what is handed in stays, its spare room too.
func TestArgumentsStay(t *testing.T) {
	roomy := func(l []int) []int {
		return append(slices.Clone(l), -7, -7, -8)[:len(l)]
	}
	b := like(4, map[int]int{3: 1})
	x := laid(map[int]int{9: 2}, roomy(b), roomy(b), roomy(like(0, nil)))
	x.Index = roomy(x.Index)
	x.Blocks = append(x.Blocks, []int{-8}, nil)[:3]
	var want [][]int
	for _, l := range lists(x) {
		want = append(want, slices.Clone(l))
	}
	pack.Pack(x)
	pack.Size(x)
	pack.Runs(x.Index)
	pack.Runs(x.Blocks[0])
	if !slices.EqualFunc(lists(x), want, slices.Equal[[]int]) {
		t.Error("a trie was written into")
	}
}

// R4: what calls answer hangs on no other calls.
func TestCallsKeepNothing(t *testing.T) {
	x, y := many(30), many(31)
	p, q := packOf(x), packOf(y)
	for range 3 {
		wantPack(t, "one", x)
		pack.Pack(api.Trie{})
		pack.Load(q[:len(q)-5])
		wantPack(t, "another", y)
		pack.Load(sealed(p[:40]))
		pack.Size(many(301))
	}
	x.Blocks[0][0] = 32
	wantNoPack(t, "spoilt", x, api.ErrTrie)
	x.Blocks[0][0] = 1
	wantPack(t, "made right", x)
}
