package trie_test

import (
	"fmt"
	"math"
	"slices"
	"testing"

	"virama/api"
	"virama/span"
	"virama/trie"
)

// numbers is how many numbers tries say something of.
const numbers = 0x110000

// odd are numbers that are none of these.
var odd = []int{math.MinInt, math.MinInt + 1, -1 << 32, -0x110000, -257, -256, -255, -2, -1, 0x110000, 0x110001, 0x1100ff, 0x110100, 0x1fffff, 1 << 31, 1 << 32, 1<<32 + 0x300, math.MaxInt - 1, math.MaxInt}

// edges are numbers at which rows begin and end, and others beside and between.
var edges = []int{0, 1, 2, 0x7f, 0xfe, 0xff, 0x100, 0x101, 0x1fe, 0x1ff, 0x200, 0x201, 0x2ff, 0x300, 0x36f, 0x370, 0x3ff, 0x400, 0xd7ff, 0xd800, 0xdfff, 0xe000, 0xffff, 0x10000,
	0x10fdff, 0x10fe00, 0x10feff, 0x10ff00, 0x10ff01, 0x10fffd, 0x10fffe, 0x10ffff}

// rg is a range.
func rg(from, to, value int) api.Range {
	return api.Range{From: from, To: to, Value: value}
}

// The document's words, written out again, number by number.

// painted is what ranges say of each number, 0 where they say nothing.
func painted(l []api.Range) []byte {
	said := make([]byte, numbers)
	for _, x := range l {
		for r := x.From; r <= x.To; r++ {
			said[r] = byte(x.Value)
		}
	}
	return said
}

// looked is what a right trie says of each number.
func looked(x api.Trie) []byte {
	said := make([]byte, numbers)
	for r := range said {
		said[r] = byte(x.Blocks[x.Index[r/256]][r%256])
	}
	return said
}

// rangesOf is the tight map of what is said that is not 0.
func rangesOf(said []byte) []api.Range {
	var l []api.Range
	for r, v := range said {
		if v != 0 && r > 0 && said[r-1] == v {
			l[len(l)-1].To = r
		} else if v != 0 {
			l = append(l, rg(r, r, int(v)))
		}
	}
	return l
}

func isRight(x api.Trie) bool {
	for _, at := range x.Index {
		if !(0 <= at && at < len(x.Blocks)) {
			return false
		}
	}
	for _, b := range x.Blocks {
		if len(b) != 256 || slices.Min(b) < 0 || slices.Max(b) > 31 {
			return false
		}
	}
	return len(x.Index) == 4352
}

// isLeast asks what a trie is that is right.
func isLeast(x api.Trie) bool {
	seen := map[string]bool{}
	ahead := -1
	for i, b := range x.Blocks {
		first := slices.Index(x.Index, i)
		if first <= ahead || seen[fmt.Sprint(b)] {
			return false
		}
		ahead, seen[fmt.Sprint(b)] = first, true
	}
	return true
}

func same(a, b api.Trie) bool {
	if len(a.Index) != len(b.Index) || len(a.Blocks) != len(b.Blocks) {
		return false
	}
	for i := range a.Index {
		if a.Index[i] != b.Index[i] {
			return false
		}
	}
	for i := range a.Blocks {
		if !slices.Equal(a.Blocks[i], b.Blocks[i]) {
			return false
		}
	}
	return true
}

// none asks whether nothing stands in a trie.
func none(x api.Trie) bool {
	return len(x.Index) == 0 && len(x.Blocks) == 0
}

// copied is a trie that shares nothing with another one.
func copied(x api.Trie) api.Trie {
	y := api.Trie{Index: slices.Clone(x.Index)}
	for _, b := range x.Blocks {
		y.Blocks = append(y.Blocks, slices.Clone(b))
	}
	return y
}

// like is a block of one value, but for those at the places told.
func like(v int, others map[int]int) []int {
	b := slices.Repeat([]int{v}, 256)
	for i, w := range others {
		b[i] = w
	}
	return b
}

// laid is a trie of blocks in which each row has block 0, but for those told.
func laid(rows map[int]int, blocks ...[]int) api.Trie {
	x := api.Trie{Index: make([]int, 4352), Blocks: blocks}
	for i, at := range rows {
		x.Index[i] = at
	}
	return x
}

// wantSays asks whether a trie is right, and Value, Ranges and Least are what the document's words say, if it says that.
func wantSays(t *testing.T, x api.Trie, said []byte) {
	t.Helper()
	if !isRight(x) || !trie.Right(x) {
		t.Fatal("not right:", x.Index, x.Blocks)
	}
	if !slices.Equal(looked(x), said) {
		t.Fatal("says other things:", x.Index, x.Blocks)
	}
	for _, r := range edges {
		if v := trie.Value(x, r); v != int(said[r]) {
			t.Fatalf("Value of %x = %d, wanted %d", r, v, said[r])
		}
	}
	for _, r := range odd {
		if v := trie.Value(x, r); v != 0 {
			t.Fatalf("Value of %x = %d", r, v)
		}
	}
	want := rangesOf(said)
	m, e := trie.Ranges(x)
	if len(want) > 600 && (len(m) != 0 || e != api.ErrRange) || len(want) <= 600 && (!slices.Equal(m, want) || e != api.OK) {
		t.Fatalf("Ranges = %.12v, %d, wanted %d of them, %.12v", m, e, len(want), want)
	}
}

// wantLeast asks likewise, and whether the trie is least, and how many blocks it has.
func wantLeast(t *testing.T, x api.Trie, said []byte, blocks int) {
	t.Helper()
	wantSays(t, x, said)
	if !isLeast(x) || blocks != len(x.Blocks) {
		t.Fatal("not least, or not so many blocks:", blocks, x.Index, x.Blocks)
	}
	if y, e := trie.Least(x); !same(x, y) || e != api.OK {
		t.Fatal("Least of the least one is another:", e)
	}
}

// blocksOf counts how many rows are not the same.
func blocksOf(said []byte) int {
	seen := map[[256]byte]bool{}
	for r := 0; r < len(said); r += 256 {
		seen[[256]byte(said[r:])] = true
	}
	return len(seen)
}

// wantBuild asks whether a map's trie is what the document's words say.
func wantBuild(t *testing.T, l []api.Range) {
	t.Helper()
	x, e := trie.Build(l)
	if e != api.OK {
		t.Fatalf("Build(%.12v): %d", l, e)
	}
	said := painted(l)
	wantLeast(t, x, said, blocksOf(said))
}

// wantWrong asks whether all calls answer what they do to a trie that is not right.
func wantWrong(t *testing.T, name string, x api.Trie) {
	t.Helper()
	if isRight(x) || trie.Right(x) {
		t.Fatal(name, "is right")
	}
	if m, e := trie.Ranges(x); len(m) != 0 || e != api.ErrTrie {
		t.Fatal(name, m, e)
	}
	if y, e := trie.Least(x); !none(y) || e != api.ErrTrie {
		t.Fatal(name, len(y.Index), e)
	}
	for _, r := range slices.Concat(edges, odd) {
		if v := trie.Value(x, r); v != 0 {
			t.Fatalf("%s: Value of %x = %d", name, r, v)
		}
	}
}

// P6.1: the document's example, by hand.
func TestExample(t *testing.T) {
	x, e := trie.Build([]api.Range{rg(0x300, 0x36f, 1)})
	if e != api.OK || len(x.Index) != 4352 || len(x.Blocks) != 2 || x.Index[3] != 1 || slices.Max(slices.Concat(x.Index[:3], x.Index[4:])) != 0 {
		t.Fatal(e, x)
	}
	ones := like(0, nil)
	for i := range 0x70 {
		ones[i] = 1
	}
	if !slices.Equal(x.Blocks[0], make([]int, 256)) || !slices.Equal(x.Blocks[1], ones) {
		t.Error(x.Blocks)
	}
}

// P6.1: which rows have which blocks, by hand.
func TestBlocksOfMapsByHand(t *testing.T) {
	for _, c := range []struct {
		l      []api.Range
		blocks int
		index  map[int]int
		others int // which block all other rows have
	}{
		{nil, 1, nil, 0},
		{[]api.Range{}, 1, nil, 0},
		{[]api.Range{rg(0, 0x10ffff, 0)}, 1, nil, 0},
		{[]api.Range{rg(0, 0x10ffff, 31)}, 1, nil, 0},
		{[]api.Range{rg(5, 9, 0), rg(10, 10, 0), rg(0x10ffff, 0x10ffff, 0)}, 1, nil, 0},
		{[]api.Range{rg(0, 0, 1)}, 2, map[int]int{0: 0}, 1},
		{[]api.Range{rg(0, 0xff, 1)}, 2, map[int]int{0: 0}, 1},
		{[]api.Range{rg(0, 0x100, 1)}, 3, map[int]int{0: 0, 1: 1}, 2},
		{[]api.Range{rg(0xff, 0xff, 1), rg(0x1ff, 0x1ff, 1)}, 2, map[int]int{0: 0, 1: 0}, 1},
		{[]api.Range{rg(0x10ffff, 0x10ffff, 1)}, 2, map[int]int{4351: 1}, 0},
		{[]api.Range{rg(0x10ff00, 0x10ffff, 1)}, 2, map[int]int{4351: 1}, 0},
		{[]api.Range{rg(0x10feff, 0x10ff00, 1)}, 3, map[int]int{4350: 1, 4351: 2}, 0},
		{[]api.Range{rg(0x100, 0x1ff, 2), rg(0x200, 0x2ff, 1), rg(0x300, 0x3ff, 2)}, 3, map[int]int{1: 1, 2: 2, 3: 1}, 0},
		{[]api.Range{rg(0x100, 0x3ff, 2)}, 2, map[int]int{1: 1, 2: 1, 3: 1}, 0},
		{[]api.Range{rg(0x180, 0x2ff, 2), rg(0x380, 0x3ff, 2)}, 3, map[int]int{1: 1, 2: 2, 3: 1}, 0},
		{[]api.Range{rg(0x1ff, 0x200, 3), rg(0x3ff, 0x400, 3)}, 3, map[int]int{1: 1, 2: 2, 3: 1, 4: 2}, 0},
	} {
		want := slices.Repeat([]int{c.others}, 4352)
		for i, at := range c.index {
			want[i] = at
		}
		x, e := trie.Build(c.l)
		if e != api.OK || !slices.Equal(x.Index, want) || len(x.Blocks) != c.blocks {
			t.Errorf("Build(%v): %d, %v, %d blocks", c.l, e, x.Index, len(x.Blocks))
		}
		wantBuild(t, c.l)
	}
}

// mapsOf are all maps of up to n ranges that begin and end at these numbers, in their order, with those values.
func mapsOf(n int, ends []int, values ...int) [][]api.Range {
	all := [][]api.Range{nil}
	for i := 0; n > 0 && i < len(ends); i++ {
		for j := i; j < len(ends); j++ {
			for _, v := range values {
				for _, m := range mapsOf(n-1, ends[j+1:], values...) {
					all = append(all, append([]api.Range{rg(ends[i], ends[j], v)}, m...))
				}
			}
		}
	}
	return all
}

// P6.1, P6.2, P6.3: all small maps at the ends of rows, and of all numbers.
func TestSmallMaps(t *testing.T) {
	for _, ends := range [][]int{{0, 0xff, 0x100}, {0x1ff, 0x200, 0x2ff, 0x300}, {0, 0x10ff00, 0x10ffff}} {
		for _, l := range mapsOf(2, ends, 0, 31) {
			wantBuild(t, l)
		}
	}
}

// P6.3: what Ranges says of a map's trie is the map, tight, without values of 0.
func TestRangesOfMaps(t *testing.T) {
	n := 0
	for _, l := range mapsOf(3, []int{0, 0xff, 0x100, 0x101, 0x10ffff}, 0, 1, 2) {
		tight, _ := span.Tight(l)
		want := slices.DeleteFunc(tight, func(x api.Range) bool { return x.Value == 0 })
		x, e := trie.Build(l)
		m, f := trie.Ranges(x)
		if !slices.Equal(m, want) || e != api.OK || f != api.OK || !span.Right(m) {
			t.Fatalf("%v: %v, %d, %d", l, m, e, f)
		}
		n++
	}
	if n < 600 {
		t.Error("only", n, "maps")
	}
}

// dots are n ranges of one number each, with gap numbers between each two, and values from 1 to 31.
func dots(n, gap int) []api.Range {
	var l []api.Range
	for i := range n {
		l = append(l, rg(i*(gap+1), i*(gap+1), i%31+1))
	}
	return l
}

// P6.1, P6.3: maps of many ranges, and of as many blocks as there can be of one.
func TestGreatMaps(t *testing.T) {
	for _, gap := range []int{0, 1, 254, 255, 256, 257, 511, 1855} {
		for _, n := range []int{599, 600} {
			wantBuild(t, dots(n, gap))
		}
	}
	var across []api.Range
	for i := range 600 {
		across = append(across, rg(0x100*7*i+i%256, 0x100*7*i+0x100+i%256, i%32))
	}
	wantBuild(t, across)
}

// P6.1: what is no map has no trie.
func TestWhatIsNoMap(t *testing.T) {
	for _, l := range [][]api.Range{
		{rg(5, 9, 0), rg(9, 10, 0)}, {rg(5, 9, 1), rg(5, 9, 1)}, {rg(5, 9, 1), rg(1, 2, 1)}, {rg(2, 1, 1)}, {rg(-1, 1, 1)},
		{rg(0, 0x110000, 1)}, {rg(0x110000, 0x110000, 1)}, {rg(1, 1, -1)}, {rg(1, 1, 32)}, {rg(0, 1, 1), rg(3, 3, 32)},
		{rg(math.MinInt, math.MaxInt, 1)}, {rg(0, math.MaxInt, 1)}, {rg(math.MinInt, 0, 1)}, {rg(0, 0, math.MinInt)}, {rg(0, 0, math.MaxInt)},
		{{}, {}}, dots(601, 1), dots(1000, 0), dots(100000, 300),
	} {
		if x, e := trie.Build(l); !none(x) || e != api.ErrRange {
			t.Errorf("Build(%.12v): %d, %d rows", l, e, len(x.Index))
		}
	}
}

// some is a trie with several blocks, not least: block 0 stands again as block 3, blocks 4 and 5 have no rows.
func some() api.Trie {
	return laid(map[int]int{0: 2, 1: 1, 2: 3, 0xd8: 1, 4350: 2, 4351: 1},
		like(0, nil), like(7, map[int]int{255: 31}), like(0, map[int]int{0: 5, 255: 7}), like(0, nil), like(0, nil), like(9, nil))
}

// P6.1, P6.2: what makes a trie not right, at each place where it may stand.
func TestWrongTries(t *testing.T) {
	wantWrong(t, "nothing", api.Trie{})
	wantWrong(t, "empty lists", api.Trie{Index: []int{}, Blocks: [][]int{}})
	wantWrong(t, "no blocks", laid(nil))
	wantWrong(t, "no rows", api.Trie{Blocks: [][]int{make([]int, 256)}})
	for _, n := range []int{1, 256, 4351, 4353, 8704, 0x110000} {
		x := some()
		x.Index = make([]int, n)
		wantWrong(t, fmt.Sprint("so many rows: ", n), x)
	}
	for _, i := range []int{0, 1, 2, 300, 2176, 4350, 4351} {
		for _, at := range []int{math.MinInt, -1 << 32, -6, -1, 6, 7, 256, 1 << 32, math.MaxInt} {
			x := some()
			x.Index[i] = at
			wantWrong(t, fmt.Sprintf("row %d has block %d", i, at), x)
		}
	}
	for i := range 6 {
		for _, n := range []int{0, 1, 255, 257, 512, 4352} {
			x := some()
			x.Blocks[i] = make([]int, n)
			wantWrong(t, fmt.Sprintf("block %d has %d values", i, n), x)
		}
		for _, place := range []int{0, 1, 128, 254, 255} {
			for _, v := range []int{math.MinInt, -32, -1, 32, 33, 1 << 32, math.MaxInt} {
				x := some()
				x.Blocks[i][place] = v
				wantWrong(t, fmt.Sprintf("block %d has %d at %d", i, v, place), x)
			}
		}
	}
	wantSays(t, some(), looked(some()))
}

// P6.2: a trie that is not right is that ahead of all, however many ranges it has.
func TestWrongAheadOfMany(t *testing.T) {
	x := laid(nil, like(0, map[int]int{7: 1}))
	wantSays(t, x, looked(x))
	if _, e := trie.Ranges(x); e != api.ErrRange {
		t.Error(e)
	}
	x.Index[4351] = 1
	wantWrong(t, "the last row's block", x)
	x.Blocks = append(x.Blocks, like(0, map[int]int{255: 32}))
	wantWrong(t, "the last value of all", x)
}

// P6.1: each value that a block may have, at each place, is right, and is said.
func TestValues(t *testing.T) {
	b := make([]int, 256)
	for v := range 32 {
		for i := range b {
			b[i] = (i + v) % 32
		}
		x := laid(map[int]int{3: 1, 4351: 1}, make([]int, 256), b)
		if !trie.Right(x) {
			t.Fatal(v)
		}
		for i := range b {
			if trie.Value(x, 0x300+i) != (i+v)%32 || trie.Value(x, 0x10ff00+i) != (i+v)%32 || trie.Value(x, 0x200+i) != 0 || trie.Value(x, 0x400+i) != 0 {
				t.Fatalf("%d at %x", v, i)
			}
		}
	}
}

// P6.1: each row has its own numbers.
func TestRows(t *testing.T) {
	var blocks [][]int
	for v := range 32 {
		blocks = append(blocks, like(v, nil))
	}
	x := laid(nil, blocks...)
	for i := range x.Index {
		x.Index[i] = (i + i/32) % 32
	}
	for i := range 4352 {
		want := (i + i/32) % 32
		if a, b := trie.Value(x, 256*i), trie.Value(x, 256*i+255); a != want || b != want {
			t.Fatalf("row %d: %d, %d", i, a, b)
		}
	}
}

// P6.2: as many ranges as a map may have, and one more, and where these stand.
func TestSoManyRanges(t *testing.T) {
	block := func(places ...int) []int {
		b := make([]int, 256)
		for _, i := range places {
			b[i] = i%31 + 1
		}
		return b
	}
	one, two := block(8), block(8, 100)
	check := func(name string, many bool, x api.Trie) {
		t.Helper()
		said := looked(x)
		if len(rangesOf(said)) > 600 != many {
			t.Fatal(name, "has so many ranges:", len(rangesOf(said)))
		}
		wantSays(t, x, said)
	}
	rows := func(n, at int) map[int]int {
		m := map[int]int{}
		for i := range n {
			m[3*i] = at
		}
		return m
	}
	zero := make([]int, 256)
	check("599", false, laid(rows(599, 1), zero, one))
	check("600", false, laid(rows(600, 1), zero, one))
	check("601", true, laid(rows(601, 1), zero, one))
	check("600 by two", false, laid(rows(300, 1), zero, two))
	check("602 by two", true, laid(rows(301, 1), zero, two))
	for _, last := range [][]int{block(0), block(255)} {
		x := laid(rows(600, 1), zero, one, last)
		x.Index[4351] = 2
		check("601, the last row's", true, x)
		x.Index[0] = 0
		check("600, the last row's", false, x)
	}
	// The 600th goes on over rows, to the end of all or not, and 0 behind it is no range.
	x := laid(rows(599, 1), zero, one, like(4, nil), like(4, map[int]int{255: 0}), like(4, map[int]int{0: 0}), like(4, map[int]int{0: 5}))
	for i := 4000; i < 4352; i++ {
		x.Index[i] = 2
	}
	check("the last one long", false, x)
	x.Index[4351] = 3
	check("the last one not to the end", false, x)
	x.Index[4351] = 4
	check("a gap, and one more", true, x)
	x.Index[4351] = 5
	check("two more without a gap", true, x)
	check("one of all", false, laid(nil, like(31, nil)))
	check("one a row", true, laid(nil, like(31, map[int]int{0: 0})))
	check("two a row", true, laid(nil, like(31, map[int]int{255: 30})))
	steps := api.Trie{Index: make([]int, 4352)}
	for i := range 31 {
		steps.Blocks = append(steps.Blocks, like(i+1, nil))
	}
	for i := range steps.Index {
		steps.Index[i] = i * 600 / 4352 % 31
	}
	check("600 steps", false, steps)
	for i := range steps.Index {
		steps.Index[i] = i * 601 / 4352 % 31
	}
	check("601 steps", true, steps)
}

// P6.2: ranges that end at a row's end, or go on.
func TestRangesOverRows(t *testing.T) {
	zero := make([]int, 256)
	for _, c := range []struct {
		x    api.Trie
		want []api.Range
	}{
		{laid(nil, zero), nil},
		{laid(nil, like(1, nil)), []api.Range{rg(0, 0x10ffff, 1)}},
		{laid(map[int]int{1: 1, 2: 1}, zero, like(6, nil)), []api.Range{rg(0x100, 0x2ff, 6)}},
		{laid(map[int]int{1: 1, 3: 1}, zero, like(6, nil)), []api.Range{rg(0x100, 0x1ff, 6), rg(0x300, 0x3ff, 6)}},
		{laid(map[int]int{1: 1, 2: 2}, zero, like(6, nil), like(7, nil)), []api.Range{rg(0x100, 0x1ff, 6), rg(0x200, 0x2ff, 7)}},
		{laid(map[int]int{1: 1, 2: 2}, zero, like(0, map[int]int{255: 3}), like(0, map[int]int{0: 3})), []api.Range{rg(0x1ff, 0x200, 3)}},
		{laid(map[int]int{1: 1, 2: 2}, zero, like(0, map[int]int{255: 3}), like(0, map[int]int{1: 3})), []api.Range{rg(0x1ff, 0x1ff, 3), rg(0x201, 0x201, 3)}},
		{laid(map[int]int{1: 1, 2: 2}, zero, like(0, map[int]int{254: 3}), like(0, map[int]int{0: 3})), []api.Range{rg(0x1fe, 0x1fe, 3), rg(0x200, 0x200, 3)}},
		{laid(map[int]int{0: 1, 4351: 2}, zero, like(0, map[int]int{0: 31}), like(0, map[int]int{255: 31})), []api.Range{rg(0, 0, 31), rg(0x10ffff, 0x10ffff, 31)}},
		{laid(map[int]int{0: 1}, zero, like(0, map[int]int{4: 2, 5: 2, 6: 3, 8: 3})), []api.Range{rg(4, 5, 2), rg(6, 6, 3), rg(8, 8, 3)}},
	} {
		if m, e := trie.Ranges(c.x); !slices.Equal(m, c.want) || e != api.OK {
			t.Errorf("%v, %d, wanted %v", m, e, c.want)
		}
	}
}

// P6.2: blocks that stand twice, have no row, or stand in another order.
func TestLeast(t *testing.T) {
	x := some()
	y, e := trie.Least(x)
	if e != api.OK || len(y.Blocks) != 3 || !slices.Equal(y.Blocks[0], x.Blocks[2]) || !slices.Equal(y.Blocks[1], x.Blocks[1]) || !slices.Equal(y.Blocks[2], x.Blocks[0]) {
		t.Fatal(e, y)
	}
	if !slices.Equal(y.Index[:4], []int{0, 1, 2, 2}) || y.Index[0xd8] != 1 || y.Index[4349] != 2 || y.Index[4350] != 0 || y.Index[4351] != 1 {
		t.Error(y.Index)
	}
	wantLeast(t, y, looked(x), 3)
	for _, last := range []int{0, 1, 2, 3} {
		var b [][]int
		for v := range 4 {
			b = append(b, like(v%3, nil))
		}
		x := laid(map[int]int{4351: last}, b...)
		y, e := trie.Least(x)
		if e != api.OK || len(y.Blocks) != 1+min(1, last%3) {
			t.Fatal(last, e, len(y.Blocks))
		}
		wantLeast(t, y, looked(x), len(y.Blocks))
	}
}

// draws is a source of numbers, the same ones each time.
func draws(seed uint64) func(int) int {
	return func(n int) int {
		seed = seed*6364136223846793005 + 1442695040888963407
		return int(seed >> 33 % uint64(n))
	}
}

// P6.1, P6.2: tries of few and of many blocks, in any order; the least one is the same, whichever one it comes of.
func TestManyTries(t *testing.T) {
	for seed, n := range []int{1, 2, 3, 7, 31, 300, 301, 4352, 9000} {
		draw := draws(uint64(seed))
		x := api.Trie{Index: make([]int, 4352)}
		for range n {
			x.Blocks = append(x.Blocks, like(draw(2), map[int]int{draw(256): draw(32), 255 * draw(2): draw(3)}))
		}
		for i := range x.Index {
			x.Index[i] = draw(n)
		}
		said := looked(x)
		wantSays(t, x, said)
		y, e := trie.Least(x)
		if e != api.OK {
			t.Fatal(n, e)
		}
		wantLeast(t, y, said, blocksOf(said))
		turned := copied(x)
		slices.Reverse(turned.Blocks)
		for i := range turned.Index {
			turned.Index[i] = n - 1 - turned.Index[i]
		}
		if z, e := trie.Least(turned); !same(y, z) || e != api.OK || n > 1 && trie.Same(x, turned) {
			t.Fatal(n, "turned about:", e)
		}
	}
	// Each row its own: as many blocks as there are rows, and as few.
	x := api.Trie{Index: make([]int, 4352)}
	for i := range x.Index {
		x.Index[i] = 4351 - i
		x.Blocks = append(x.Blocks, like(0, map[int]int{0: i % 32, 1: i / 32 % 32, 2: i / 1024}))
	}
	y, e := trie.Least(x)
	if e != api.OK || y.Index[0] != 0 || y.Index[4351] != 4351 {
		t.Fatal(e, len(y.Blocks))
	}
	wantLeast(t, y, looked(x), 4352)
	for i := range x.Blocks {
		x.Blocks[i] = like(8, nil)
	}
	y, e = trie.Least(x)
	if e != api.OK {
		t.Fatal(e)
	}
	wantLeast(t, y, looked(x), 1)
}

// P6.1: tries, right or not, of which each two are not the same, and each is the same as itself.
func TestSame(t *testing.T) {
	zero := make([]int, 256)
	tries := []api.Trie{
		{},
		{Index: []int{0}},
		{Index: []int{1}},
		{Index: []int{-1}},
		{Index: []int{0, 0}},
		{Blocks: [][]int{nil}},
		{Blocks: [][]int{nil, nil}},
		{Blocks: [][]int{{0}}},
		{Blocks: [][]int{{0}, {0}}},
		{Blocks: [][]int{{0, 0}}},
		{Blocks: [][]int{{0, 1}}},
		{Blocks: [][]int{{1, 0}}},
		{Blocks: [][]int{{0}, {1}}},
		{Blocks: [][]int{{1}, {0}}},
		{Index: []int{0}, Blocks: [][]int{{0}}},
		{Index: []int{math.MinInt}, Blocks: [][]int{{math.MaxInt}}},
		{Index: []int{math.MaxInt}, Blocks: [][]int{{math.MinInt}}},
		laid(nil, zero),
		laid(nil, zero, zero),
		laid(map[int]int{4351: 1}, zero, zero),
		laid(map[int]int{0: 1}, zero, zero),
		laid(nil, like(0, map[int]int{255: 1})),
		laid(nil, like(0, map[int]int{0: 1})),
		laid(nil, zero, like(0, map[int]int{255: 1})),
		laid(nil, zero, zero, zero),
		laid(nil, like(32, nil)),
		some(),
	}
	for i, a := range tries {
		for j, b := range tries {
			if trie.Same(a, copied(b)) != (i == j) {
				t.Errorf("Same of %d and %d: %v", i, j, i != j)
			}
		}
	}
	if !trie.Same(api.Trie{}, api.Trie{Index: []int{}, Blocks: [][]int{}}) || !trie.Same(api.Trie{Blocks: [][]int{{}}}, api.Trie{Blocks: [][]int{nil}}) {
		t.Error("nil and empty")
	}
}

// lists are all those of a trie, with their spare room.
func lists(x api.Trie) [][]int {
	l := [][]int{x.Index[:cap(x.Index)]}
	for _, b := range x.Blocks[:cap(x.Blocks)] {
		l = append(l, b[:cap(b)])
	}
	return l
}

// spoil writes into all lists of a trie, spare room too.
func spoil(x api.Trie) {
	for _, l := range lists(x) {
		for i := range l {
			l[i] = -5
		}
	}
	for i := range x.Blocks[:cap(x.Blocks)] {
		x.Blocks[:cap(x.Blocks)][i] = nil
	}
}

// R3: an answered trie is new, its spare room too, and no two lists of it share any.
func TestAnsweredTriesAreNew(t *testing.T) {
	l := []api.Range{rg(0x10, 0x20, 1), rg(0x100, 0x180, 2), rg(0x300, 0x300, 3)}
	given := some()
	for name, call := range map[string]func() (api.Trie, api.Errno){
		"Build": func() (api.Trie, api.Errno) { return trie.Build(l) },
		"Least": func() (api.Trie, api.Errno) { return trie.Least(given) },
	} {
		first, _ := call()
		want := copied(first)
		second, e := call()
		if e != api.OK || !same(first, second) || len(first.Blocks) < 3 {
			t.Fatal(name, e)
		}
		spoil(second)
		if !same(first, want) || !same(given, some()) {
			t.Error(name, "shares what it answers")
		}
		all := lists(first)
		for i, a := range all {
			before := slices.Clone(a)
			for j, b := range all {
				if i != j {
					for k := range b {
						b[k]++
					}
				}
			}
			if !slices.Equal(a, before) {
				t.Fatal(name, "has lists that share:", i)
			}
		}
	}
	if l[0] != rg(0x10, 0x20, 1) || l[1] != rg(0x100, 0x180, 2) || l[2] != rg(0x300, 0x300, 3) {
		t.Error(l)
	}
}

// R3: a trie that hands in one list for all of its blocks has a least one of its own.
func TestSharedBlocks(t *testing.T) {
	room := like(3, map[int]int{9: 4})
	x := laid(map[int]int{7: 1, 9: 2}, room, room, room)
	y, e := trie.Least(x)
	if e != api.OK || len(y.Blocks) != 1 {
		t.Fatal(e, len(y.Blocks))
	}
	for i := range room {
		room[i] = 0
	}
	if !slices.Equal(y.Blocks[0], like(3, map[int]int{9: 4})) {
		t.Error("Least keeps what was handed in")
	}
}

// R3: answered ranges are new each time, their spare room too.
func TestAnsweredRangesAreNew(t *testing.T) {
	x, _ := trie.Build(dots(20, 3))
	first, _ := trie.Ranges(x)
	second, _ := trie.Ranges(x)
	all := second[:cap(second)]
	for i := range all {
		all[i] = rg(9, 9, 9)
	}
	if !slices.Equal(first, dots(20, 3)) {
		t.Error("two answers share memory")
	}
	if third, e := trie.Ranges(x); !slices.Equal(third, first) || e != api.OK {
		t.Error(third, e)
	}
}

// R3: what is handed in stays, its spare room too.
func TestArgumentsStay(t *testing.T) {
	roomy := func(n int, l []int) []int {
		return append(slices.Clone(l), slices.Repeat([]int{-7}, n)...)[:len(l)]
	}
	x := some()
	x.Index = roomy(9, x.Index)
	for i, b := range x.Blocks {
		x.Blocks[i] = roomy(5, b)
	}
	x.Blocks = append(x.Blocks, []int{-8}, nil)[:6]
	var want [][]int
	for _, l := range lists(x) {
		want = append(want, slices.Clone(l))
	}
	trie.Right(x)
	trie.Value(x, 0x10ffff)
	trie.Ranges(x)
	trie.Least(x)
	trie.Same(x, x)
	if !slices.EqualFunc(lists(x), want, slices.Equal[[]int]) {
		t.Error("a trie was written into")
	}
	room := append(dots(20, 300), rg(-1, -1, -1), rg(-2, -2, -2))
	before := slices.Clone(room)
	for n := range 21 {
		trie.Build(room[:n])
	}
	trie.Build(room)
	if !slices.Equal(room, before) {
		t.Error("ranges were written into:", room)
	}
}

// R4: what calls answer hangs on no other calls.
func TestCallsKeepNothing(t *testing.T) {
	l, m := dots(50, 100), dots(70, 9)
	first, _ := trie.Build(l)
	trie.Build(m)
	trie.Build(dots(601, 1))
	trie.Least(api.Trie{})
	trie.Ranges(laid(nil, like(0, map[int]int{7: 1})))
	second, e := trie.Build(l)
	if !trie.Same(first, second) || e != api.OK {
		t.Error("another answer:", e)
	}
	first.Blocks[0][0] = 32
	wantWrong(t, "spoilt", first)
	first.Blocks[0][0] = second.Blocks[0][0]
	wantSays(t, first, painted(l))
}
