package width_test

import (
	"math"
	"slices"
	"strconv"
	"strings"
	"testing"
	"unicode/utf8"

	"virama/api"
	"virama/prop"
	"virama/trie"
	"virama/width"
)

// The document's words, written out again, on top of Go's own UTF-8.

// theNames are the widths' names.
var theNames = []string{"N", "A", "H", "W", "F", "Na", "Z"}

// columnsOf is how wide a scalar is of which a name is said.
func columnsOf(name string, wide bool) int {
	if name == "A" {
		return map[bool]int{false: 1, true: 2}[wide]
	}
	return map[string]int{"N": 1, "H": 1, "W": 2, "F": 2, "Na": 1, "Z": 0}[name]
}

// words are what a file says, and whether A is wide.
type words struct {
	ranges []api.Range
	wide   bool
}

// file is a line of each range.
func (w words) file() string {
	s := "# said\n"
	for _, x := range w.ranges {
		s += code(x.From) + ".." + code(x.To) + " ; " + theNames[x.Value] + " # " + strconv.Itoa(x.Value) + "\n"
	}
	return s
}

// code is a scalar in six digits.
func code(r int) string {
	s := strconv.FormatInt(int64(r), 16)
	return strings.Repeat("0", 6-len(s)) + s
}

// of is how wide a scalar is.
func (w words) of(r rune) int {
	for _, x := range w.ranges {
		if x.From <= int(r) && int(r) <= x.To {
			return columnsOf(theNames[x.Value], w.wide)
		}
	}
	return columnsOf("N", w.wide)
}

// cluster is how wide a cluster is.
func (w words) cluster(c string) int {
	scalars := []rune(c)
	if len(scalars) == 0 {
		return 0
	}
	all := []int{}
	for _, r := range scalars {
		all = append(all, w.of(r))
	}
	if slices.Max(all) != 0 && slices.Contains(scalars[1:], 0xfe0f) {
		return 2
	}
	return slices.Max(all)
}

// columns is how wide clusters are together.
func (w words) columns(l []string) int {
	n := 0
	for _, c := range l {
		n += w.cluster(c)
	}
	return n
}

// fit is how many clusters are together at most n wide.
func (w words) fit(l []string, n int) int {
	for k := len(l); k > 0; k-- {
		if w.columns(l[:k]) <= n {
			return k
		}
	}
	return 0
}

// made are the widths of the words.
func (w words) made(t *testing.T) api.Widths {
	t.Helper()
	x, line, e := width.Make(w.file(), w.wide)
	if line != 0 || e != api.OK || x.Wide != w.wide || !width.Right(x) {
		t.Fatalf("Make(%q, %v): %d, %d", w.file(), w.wide, line, e)
	}
	return x
}

// oddNumbers are far below 0, or far above what texts measure.
func oddNumbers() []int {
	return []int{math.MinInt, math.MinInt + 1, -1 << 40, -1 << 32, -1 << 31, -256, 1 << 31, 1 << 32, 1<<32 + 1, 1 << 40, math.MaxInt - 1, math.MaxInt}
}

// wantMeasured asks for all that is told of clusters.
func (w words) wantMeasured(t *testing.T, x api.Widths, l []string) {
	t.Helper()
	for _, c := range l {
		if n, e := width.Cluster(x, c); n != w.cluster(c) || e != api.OK {
			t.Fatalf("Cluster(%q, %+q) = %d, %d, wanted %d", w.file(), c, n, e, w.cluster(c))
		}
	}
	all := w.columns(l)
	if n, e := width.Columns(x, l); n != all || e != api.OK {
		t.Fatalf("Columns(%q, %+q) = %d, %d, wanted %d", w.file(), l, n, e, all)
	}
	limits := []int{math.MinInt, math.MaxInt}
	for n := -2; n < all+3; n++ {
		limits = append(limits, n)
	}
	for _, n := range limits {
		if k, e := width.Fit(x, l, n); k != w.fit(l, n) || e != api.OK {
			t.Fatalf("Fit(%q, %+q, %d) = %d, %d, wanted %d", w.file(), l, n, k, e, w.fit(l, n))
		}
	}
}

// wantScalar asks how wide a scalar is.
func (w words) wantScalar(t *testing.T, x api.Widths, r rune) {
	t.Helper()
	if n, e := width.Of(x, int(r)); n != w.of(r) || e != api.OK {
		t.Fatalf("Of(%q, %x) = %d, %d, wanted %d", w.file(), r, n, e, w.of(r))
	}
}

// wantNone asks that nothing is told of clusters but an error.
func wantNone(t *testing.T, x api.Widths, l []string, want api.Errno) {
	t.Helper()
	if n, e := width.Columns(x, l); n != 0 || e != want {
		t.Fatalf("Columns of %+q: %d, %d, wanted %d", l, n, e, want)
	}
	for _, n := range append(oddNumbers(), -1, 0, 1, 2, 3, 9) {
		if k, e := width.Fit(x, l, n); k != 0 || e != want {
			t.Fatalf("Fit of %+q, %d: %d, %d, wanted %d", l, n, k, e, want)
		}
	}
}

// wantWrong asks that widths are not right, and that this is told ahead of all else.
func wantWrong(t *testing.T, x api.Widths) {
	t.Helper()
	if width.Right(x) {
		t.Fatal("right:", len(x.Props.Index), len(x.Props.Blocks))
	}
	for _, r := range append(oddNumbers(), -1, 0, 'a', 0xd800, 0xfe0f, 0x10ffff, 0x110000) {
		if n, e := width.Of(x, r); n != 0 || e != api.ErrWidth {
			t.Fatal(r, n, e)
		}
	}
	for _, c := range []string{"", "a", "\u0301", "\xff", "a\ufe0f"} {
		if n, e := width.Cluster(x, c); n != 0 || e != api.ErrWidth {
			t.Fatal(c, n, e)
		}
		wantNone(t, x, []string{"a", c, "b"}, api.ErrWidth)
	}
	wantNone(t, x, nil, api.ErrWidth)
}

// mixed are k numbers below n, mixed by a seed.
func mixed(seed, k, n int) []int {
	l := make([]int, k)
	x := uint32(seed)*2654435761 + 12345
	for i := range l {
		x = x*1664525 + 1013904223
		l[i] = int(x>>8) % n
	}
	return l
}

// joined are pieces, one behind the other, as numbers tell.
func joined(pieces []string, numbers []int) string {
	s := ""
	for _, i := range numbers {
		s += pieces[i]
	}
	return s
}

// mixedClusters are k texts of up to three pieces.
func mixedClusters(seed, k int, pieces []string) []string {
	var l []string
	for i, n := range mixed(seed, k, 4) {
		l = append(l, joined(pieces, mixed(seed*31+i, n, len(pieces))))
	}
	return l
}

// ends are where mixed ranges begin, or end.
func ends() []int {
	return []int{0, 0x41, 0x42, 0x61, 0x62, 0x7f, 0x80, 0x100, 0x161, 0x162, 0x300, 0x370, 0x7ff, 0x800, 0xfff, 0x1000, 0x4e00, 0xa000, 0xcfff, 0xd000, 0xd7ff, 0xe000, 0xfe0e, 0xfe0f, 0xfe10, 0xfffd, 0xfffe, 0x10000, 0x1f600, 0x3ffff, 0x40000, 0xfffff, 0x100000, 0x10ffff, 0x110000}
}

// mixedRanges are some that do not lap.
func mixedRanges(seed, k int) []api.Range {
	var l []api.Range
	from := 0
	all := ends()
	for i, v := range mixed(seed, 2*k, 7*5) {
		from += v % 3
		if i%2 == 1 || from+2 >= len(all) {
			continue
		}
		to := from + v/7%2
		l = append(l, api.Range{From: all[from], To: all[to+1] - 1, Value: v % 7})
		from = to + 1
	}
	// Files are read in any order.
	if seed%2 == 0 {
		slices.Reverse(l)
	}
	return l
}

// endScalars are the scalars at the ends of mixed ranges, and next to them.
func endScalars() []rune {
	var l []rune
	for _, r := range ends() {
		for near := rune(r - 1); near <= rune(r+1); near++ {
			if utf8.ValidRune(near) {
				l = append(l, near)
			}
		}
	}
	slices.Sort(l)
	return slices.Compact(l)
}

// endPieces are their bytes.
func endPieces() []string {
	var l []string
	for _, r := range endScalars() {
		l = append(l, string(r))
	}
	return l
}

// badPieces are ill-formed, alone or one behind the other.
func badPieces() []string {
	return []string{"\x80", "\xbf", "\xc0", "\xc1\x80", "\xc3", "\xe0\xa0", "\xe0\x80", "\xe2\x82", "\xed\xa0\x80", "\xed\xbf\xbf", "\xee\x80", "\xf0\x9f\x98", "\xf0\x90", "\xf0\x80\x80", "\xf0\x8f\xbf\xbf", "\xf4\x90\x80\x80", "\xf5", "\xff", "\xf4\x8f\xbf", "\xef\xbf", "\xef\xb8"}
}

// oneOfEach are words of a scalar of each name: n, a, h, w, f, q and z, as w is said of fe0f.
func oneOfEach(emoji int, wide bool) words {
	w := words{wide: wide}
	for value, r := range "nahwfqz" {
		w.ranges = append(w.ranges, api.Range{From: int(r), To: int(r), Value: value})
	}
	w.ranges = append(w.ranges, api.Range{From: 0xfe0f, To: 0xfe0f, Value: emoji})
	return w
}

// P15.1: the names, in their order; what is answered is the caller's.
func TestNames(t *testing.T) {
	for range 2 {
		l := width.Names()
		if !slices.Equal(l, theNames) || !prop.Names(l) {
			t.Fatal(l)
		}
		spoilt(l, "?")
		if x, line, e := width.Make("0061;W", false); line != 0 || e != api.OK || trie.Value(x.Props, 0x61) != 3 {
			t.Fatal(line, e)
		}
	}
}

// P15.1, P15.2: the document's example, and widths by hand.
func TestByHand(t *testing.T) {
	x, line, e := width.Make("4E00..9FFF;W\n0300..036F;Z", false)
	if line != 0 || e != api.OK {
		t.Fatal(line, e)
	}
	for _, c := range []struct {
		s string
		n int
	}{{"", 0}, {"\u4e2d", 2}, {"a\u0301", 1}, {"\u0301", 0}, {"\u4dff", 1}, {"\u4e00", 2}, {"\u9fff", 2}, {"\ua000", 1}, {"\u0300\u036f\u0301", 0}, {"\u0370", 1}, {"\u02ff", 1}, {"abc", 1}, {"\u4e2d\u4e2d", 2}, {"\u0301\u4e2d", 2}, {"a\ufe0f", 2}, {"\ufe0f", 1}, {"\ufe0fa", 1}, {"\ufe0f\ufe0f", 2}, {"\u0301\ufe0f", 2}, {"\ufe0f\u0301", 1}, {"\ufffd", 1}, {"a\u0301\ufe0f", 2}, {"a\ufe0f\u0301", 2}, {"a\ufe0e", 1}, {"a\ufe10", 1}, {"\x00", 1}, {"\r\n", 1}} {
		if n, e := width.Cluster(x, c.s); n != c.n || e != api.OK {
			t.Errorf("%+q: %d, %d, wanted %d", c.s, n, e, c.n)
		}
	}
	l := []string{"\u0301", "a", "\u4e2d", "", "a\ufe0f", "\u0302", "bb"}
	for n, want := range []int{1, 2, 2, 4, 4, 6, 7, 7, 7} {
		if k, e := width.Fit(x, l, n); k != want || e != api.OK {
			t.Error(n, k, e)
		}
	}
	if n, e := width.Columns(x, l); n != 6 || e != api.OK {
		t.Error(n, e)
	}
	for _, none := range [][]string{nil, {}, {""}, {"", "\u0301"}} {
		n, e := width.Columns(x, none)
		k, f := width.Fit(x, none, 0)
		below, g := width.Fit(x, none, -1)
		if n != 0 || e != api.OK || k != len(none) || f != api.OK || below != 0 || g != api.OK {
			t.Error(none, n, e, k, f, below, g)
		}
	}
}

// P15.2: all texts of up to three scalars of all widths and fe0f, be that as wide as it will.
func TestAllSmallTexts(t *testing.T) {
	for emoji := range 7 {
		for _, wide := range []bool{false, true} {
			w := oneOfEach(emoji, wide)
			x := w.made(t)
			texts := []string{""}
			for i := 0; i < len(texts); i++ {
				s := texts[i]
				for _, r := range "nahwfqz\ufe0fx" {
					if utf8.RuneCountInString(s) < 3 {
						texts = append(texts, s+string(r))
					}
				}
				if n, e := width.Cluster(x, s); n != w.cluster(s) || e != api.OK {
					t.Fatalf("%+q, fe0f is %s, %v: %d, %d, wanted %d", s, theNames[emoji], wide, n, e, w.cluster(s))
				}
			}
			for _, r := range "nahwfqzx\ufe0f" {
				w.wantScalar(t, x, r)
			}
			for k := 0; k+4 < len(texts); k += 17 {
				w.wantMeasured(t, x, texts[k:k+k%5])
			}
		}
	}
}

// P15.1, P15.2: what mixed files say of mixed texts.
func TestWords(t *testing.T) {
	pieces := append(endPieces(), "\ufe0f", "\ufe0f", "a", "\u0301", "\u4e2d")
	scalars := endScalars()
	for seed := range 500 {
		w := words{mixedRanges(seed, seed%14), seed%3 == 0}
		x := w.made(t)
		w.wantMeasured(t, x, mixedClusters(seed, seed%9, pieces))
		for _, i := range mixed(seed, 30, len(scalars)) {
			w.wantScalar(t, x, scalars[i])
		}
	}
	// All of them, of some files.
	for seed := range 12 {
		w := words{mixedRanges(seed*7+1, 8+seed%7), seed%2 == 0}
		x := w.made(t)
		w.wantMeasured(t, x, pieces)
		for _, r := range scalars {
			w.wantScalar(t, x, r)
		}
	}
}

// P15.2: one of each row of the trie, and scalars of one row far from each other.
func TestRows(t *testing.T) {
	w := words{[]api.Range{{From: 0x4e00, To: 0x9fff, Value: 3}, {From: 0x300, To: 0x36f, Value: 6}, {From: 0x20000, To: 0x3fffd, Value: 4}, {From: 0xe000, To: 0xf8ff, Value: 1}, {From: 0xf0000, To: 0x10ffff, Value: 1}}, true}
	x := w.made(t)
	for r := rune(0); r <= utf8.MaxRune; r += 251 {
		if utf8.ValidRune(r) {
			w.wantScalar(t, x, r)
		}
	}
	var l []string
	for r := rune(0); r <= utf8.MaxRune; r += 509 {
		if utf8.ValidRune(r) {
			l = append(l, string(r))
		}
	}
	if n, e := width.Columns(x, l); n != w.columns(l) || e != api.OK {
		t.Error(n, e)
	}
	if n, e := width.Cluster(x, strings.Join(l, "")); n != 2 || e != api.OK {
		t.Error(n, e)
	}
}

// P15.2: numbers that are no scalars.
func TestNoScalars(t *testing.T) {
	x := oneOfEach(6, false).made(t)
	for _, r := range append(oddNumbers(), -1, -2, -'a', 0xd800, 0xd801, 0xdbff, 0xdc00, 0xdffe, 0xdfff, 0x110000, 0x110001, 1<<32+'a', 1<<32+'w', 1<<40+'w', -1<<32+'w') {
		if n, e := width.Of(x, r); n != 0 || e != api.ErrScalar {
			t.Error(r, n, e)
		}
	}
	for r := 0xd800; r <= 0xdfff; r += 7 {
		if n, e := width.Of(x, r); n != 0 || e != api.ErrScalar {
			t.Error(r, n, e)
		}
	}
	for _, r := range []int{0, 0xd7ff, 0xe000, 0xfffd, 0xffff, 0x10000, 0x10ffff} {
		if n, e := width.Of(x, r); n != 1 || e != api.OK {
			t.Error(r, n, e)
		}
	}
}

// P15.2: texts that are ill-formed, wherever they stand, also where nothing of them would fit.
func TestIllFormed(t *testing.T) {
	x := oneOfEach(6, true).made(t)
	right := []string{"", "a", "w\ufe0f", "\ufffd", "z", "\U0010ffff"}
	for _, bad := range badPieces() {
		for _, c := range []string{bad, "a" + bad, bad + "a", "\ufe0f" + bad + "\ufe0f", "\ufffd" + bad, bad + bad + "w", strings.Repeat("a", 300) + bad} {
			if n, e := width.Cluster(x, c); n != 0 || e != api.ErrUtf {
				t.Fatalf("%+q: %d, %d", c, n, e)
			}
			for at := range len(right) + 1 {
				wantNone(t, x, slices.Insert(slices.Clone(right), at, c), api.ErrUtf)
			}
			wantNone(t, x, []string{c, c}, api.ErrUtf)
		}
	}
	// Bytes of a scalar that are parted are none.
	wantNone(t, x, []string{"\xe2\x82", "\xac"}, api.ErrUtf)
	w := oneOfEach(6, true)
	w.wantMeasured(t, x, right)
}

// wantMade asks that Make answers what the layers below do, one behind the other.
func wantMade(t *testing.T, file string) {
	t.Helper()
	for _, wide := range []bool{false, true} {
		var want api.Widths
		ranges, line, e := prop.Read(file, theNames, 0, false)
		if e == api.OK {
			want.Props, _ = trie.Build(ranges)
			want.Wide = wide
		}
		x, n, f := width.Make(file, wide)
		if !sameWidths(x, want) || n != line || f != e || width.Right(x) != (e == api.OK) {
			t.Fatalf("Make(%q, %v): %d, %d, wanted %d, %d", file, wide, n, f, line, e)
		}
	}
}

// P15.1: what is made, and what is wrong, by hand.
func TestMake(t *testing.T) {
	many := func(s string, k int) string { return strings.Repeat(s, k) }
	for i, x := range []struct {
		file string
		line int
		e    api.Errno
	}{
		{"", 0, api.OK},
		{"# none\n\n", 0, api.OK},
		{"0041;N\n0042;A\n0043;H\n0044;W\n0045;F\n0046;Na\n0047;Z", 0, api.OK},
		{"0000..10FFFF;Na", 0, api.OK},
		{"0041;W;F;x", 0, api.OK},
		{"0041 ; W # F", 0, api.OK},
		{many("#", 20000), 0, api.OK},
		{many("#", 20001), 0, api.ErrFile},
		{many("x\n", 10001), 0, api.ErrFile},
		{"\n41;W", 2, api.ErrHex},
		{"0042..0041;W", 1, api.ErrRange},
		{"110000;W", 1, api.ErrRange},
		{"0041", 1, api.ErrField},
		{"0041;W\n0042;X\nx", 3, api.ErrHex},
		{"0041;X", 1, api.ErrName},
		{"0041;w", 1, api.ErrName},
		{"0041;NA", 1, api.ErrName},
		{"0041;", 1, api.ErrName},
		{"0041;x;W", 1, api.ErrName},
		{"0041;6", 1, api.ErrName},
		{"0041;W\n\n0041;W", 3, api.ErrLap},
		{"0041..0043;W\n0050;X\n0042;N", 2, api.ErrName},
		{"0041..0043;W\n0042;N\n0050;X", 2, api.ErrLap},
		{many("0041;X\n", 301), 301, api.ErrMany},
	} {
		for _, wide := range []bool{false, true} {
			y, line, e := width.Make(x.file, wide)
			if line != x.line || e != x.e || e != api.OK && !sameWidths(y, api.Widths{}) || e == api.OK && y.Wide != wide {
				t.Error(i, line, e, y.Wide)
			}
		}
		wantMade(t, x.file)
	}
	y, _, _ := width.Make("0100..01ff;Z # a row\n0061;F", true)
	if len(y.Props.Index) != 4352 || len(y.Props.Blocks) != 3 || y.Props.Index[1] != 1 || y.Props.Index[2] != 2 || y.Props.Blocks[0][97] != 4 || y.Props.Blocks[1][7] != 6 || y.Props.Blocks[2][97] != 0 {
		t.Error(len(y.Props.Index), len(y.Props.Blocks))
	}
	// A width that is said, and one that is not, are one, so that what is least is the same.
	a, _, _ := width.Make("0061;N", false)
	b, _, _ := width.Make("", false)
	if !sameWidths(a, b) || len(a.Props.Blocks) != 1 {
		t.Error(len(a.Props.Blocks))
	}
}

// P15.1: files that are right, or wrong in some line; what is made is least.
func TestMixedFiles(t *testing.T) {
	lines := []string{"0041;A", "0042..0050 ; W", "# all", "", "0060;Z # c", "1F600..1F64F;F", "0043;H", "61;N", "0042;X", "0070..0061;A", "0041", "110000;A", "0300..036F;Na", "4E00..9FFF;W", "10FFFF;N"}
	for seed := range 1500 {
		file := ""
		for _, i := range mixed(seed, seed%6, len(lines)) {
			file += lines[i] + "\n"
		}
		wantMade(t, file)
		x, _, e := width.Make(file, false)
		if least, f := trie.Least(x.Props); e == api.OK && (f != api.OK || !trie.Same(least, x.Props)) {
			t.Fatal(file)
		}
	}
	// As many records as there may be.
	file := ""
	for i := range 300 {
		file += code(0x1000+i*0x101) + ";" + theNames[i%7] + "\n"
	}
	wantMade(t, file)
	wantMade(t, file+"0041;W")
}

// P15.1: widths that are wrong, each in one way.
func TestWrongWidths(t *testing.T) {
	w := words{[]api.Range{{From: 0x4e00, To: 0x9fff, Value: 3}, {From: 0x300, To: 0x36f, Value: 6}, {From: 0xff01, To: 0xff60, Value: 4}}, false}
	x := w.made(t)
	if !width.Right(cloned(x)) {
		t.Fatal("not right")
	}
	wantWrong(t, api.Widths{})
	wantWrong(t, api.Widths{Wide: true})
	last := len(x.Props.Blocks) - 1
	for _, change := range []func(y *api.Trie){
		func(y *api.Trie) { *y = api.Trie{} },
		func(y *api.Trie) { y.Index = nil },
		func(y *api.Trie) { y.Blocks = nil },
		func(y *api.Trie) { y.Index = y.Index[1:] },
		func(y *api.Trie) { y.Index = append(y.Index, 0) },
		func(y *api.Trie) { y.Index[0] = len(y.Blocks) },
		func(y *api.Trie) { y.Index[4351] = len(y.Blocks) },
		func(y *api.Trie) { y.Index[7] = -1 },
		func(y *api.Trie) { y.Index[7] = math.MaxInt },
		func(y *api.Trie) { y.Blocks[1] = y.Blocks[1][1:] },
		func(y *api.Trie) { y.Blocks[1] = append(y.Blocks[1], 0) },
		func(y *api.Trie) { y.Blocks[0] = nil },
		func(y *api.Trie) { y.Blocks = append(y.Blocks, nil) },
		func(y *api.Trie) { y.Blocks = append(y.Blocks, slices.Repeat([]int{7}, 256)) },
		func(y *api.Trie) { y.Blocks = append(y.Blocks, append(make([]int, 255), 31)) },
	} {
		y := cloned(x)
		change(&y.Props)
		wantWrong(t, y)
		y.Wide = true
		wantWrong(t, y)
	}
	for _, at := range []int{0, 1, 97, 128, 254, 255} {
		for block := range last + 1 {
			for _, v := range append(oddNumbers(), -1, 0, 1, 2, 3, 4, 5, 6, 7, 8, 30, 31, 32, 33) {
				y := cloned(x)
				y.Props.Blocks[block][at] = v
				if width.Right(y) != (v >= 0 && v <= 6) {
					t.Fatal(block, at, v)
				}
				if at == 97 && (v < 0 || v > 6) {
					wantWrong(t, y)
				}
			}
		}
	}
}

// P15.1, P15.2: right widths that no file makes: blocks that no row has, or that are the same, in any order.
func TestOtherWidths(t *testing.T) {
	block := func(v int) []int { return slices.Repeat([]int{v}, 256) }
	x := api.Widths{Props: api.Trie{Index: make([]int, 4352)}}
	for i := range 9 {
		x.Props.Blocks = append(x.Props.Blocks, block(6-i%7))
	}
	for i := range x.Props.Index {
		x.Props.Index[i] = 8 - i%9
	}
	for _, wide := range []bool{false, true} {
		x.Wide = wide
		w := words{wide: wide}
		for i := range 40 {
			w.ranges = append(w.ranges, api.Range{From: i * 256, To: i*256 + 255, Value: 6 - (8-i%9)%7})
		}
		if !width.Right(x) {
			t.Fatal("not right")
		}
		var l []string
		for r := rune(3); r < 40*256; r += 97 {
			w.wantScalar(t, x, r)
			l = append(l, string(r))
		}
		w.wantMeasured(t, x, l)
	}
	// Widths of one block, of any value, which all scalars have.
	for v, name := range theNames {
		for _, wide := range []bool{false, true} {
			y := api.Widths{Props: api.Trie{Index: make([]int, 4352), Blocks: [][]int{block(v), block(6 - v)}}, Wide: wide}
			want := columnsOf(name, wide)
			for _, r := range []int{0, 'a', 0xd7ff, 0xe000, 0xfe0f, 0x10ffff} {
				if n, e := width.Of(y, r); n != want || e != api.OK {
					t.Error(name, wide, r, n, e)
				}
			}
			if n, e := width.Columns(y, []string{"a", "bc", ""}); n != 2*want || e != api.OK {
				t.Error(name, wide, n, e)
			}
			if n, e := width.Cluster(y, "\ufe0f\ufe0f"); n != min(2, 2*want) || e != api.OK {
				t.Error(name, wide, n, e)
			}
		}
	}
}

// P15.2: lists and texts may be of any length, and numbers of any size.
func TestLong(t *testing.T) {
	w := oneOfEach(6, false)
	x := w.made(t)
	for _, c := range []struct {
		l []string
		n int
	}{
		{slices.Repeat([]string{"a"}, 70000), 70000},
		{slices.Repeat([]string{"w"}, 70000), 140000},
		{slices.Repeat([]string{"z"}, 70000), 0},
		{slices.Repeat([]string{""}, 70000), 0},
		{slices.Repeat([]string{"z", "w", "n\ufe0f"}, 20000), 80000},
		{[]string{strings.Repeat("zna", 30000), strings.Repeat("z", 30000), strings.Repeat("z", 30000) + "n\ufe0f"}, 3},
	} {
		n, e := width.Columns(x, c.l)
		all, f := width.Fit(x, c.l, c.n)
		less, g := width.Fit(x, c.l, c.n-1)
		if n != c.n || e != api.OK || all != len(c.l) || f != api.OK || less >= all || g != api.OK {
			t.Error(n, e, all, f, less, g)
		}
		for _, n := range oddNumbers() {
			want := 0
			if n > 0 {
				want = len(c.l)
			}
			if k, e := width.Fit(x, c.l, n); k != want || e != api.OK {
				t.Error(n, k, e)
			}
		}
	}
	// It is the first scalar that counts, and not the first byte.
	for _, first := range []string{"n", "\u00e9", "\u20ac", "\U0001f600"} {
		w.wantMeasured(t, x, []string{first + "\ufe0f", "\ufe0f" + first, first + "z\ufe0f" + first})
	}
}

// P15.3: two lists together; what fits, and one more; A that is wide.
func TestFollows(t *testing.T) {
	pieces := append(endPieces(), "\ufe0f", "\ufe0f", "a", "\u0301", "\u4e2d")
	for seed := range 200 {
		w := words{mixedRanges(seed, 3+seed%12), false}
		x := w.made(t)
		wider := x
		wider.Wide = true
		a := mixedClusters(seed, seed%7, pieces)
		b := mixedClusters(seed+9, seed%5, pieces)
		both := slices.Concat(a, b)
		n, _ := width.Columns(x, a)
		m, _ := width.Columns(x, b)
		all, e := width.Columns(x, both)
		if all != n+m || e != api.OK {
			t.Fatal(n, m, all, e)
		}
		for limit := range all + 2 {
			k, e := width.Fit(x, both, limit)
			fits, _ := width.Columns(x, both[:k])
			more, _ := width.Columns(x, both[:min(k+1, len(both))])
			if fits > limit || more <= limit && k < len(both) || e != api.OK {
				t.Fatal(limit, k, fits, more, e)
			}
			if less, e := width.Fit(wider, both, limit); less > k || e != api.OK {
				t.Fatal(limit, k, less, e)
			}
		}
		for _, c := range both {
			n, _ := width.Cluster(x, c)
			if m, e := width.Cluster(wider, c); m < n || e != api.OK {
				t.Fatalf("%+q: %d, %d, %d", c, n, m, e)
			}
		}
	}
}

// sameWidths tells whether widths, right or not, are the same.
func sameWidths(a, b api.Widths) bool {
	return a.Wide == b.Wide && trie.Same(a.Props, b.Props)
}

// cloned are widths in new memory.
func cloned(x api.Widths) api.Widths {
	c := api.Widths{Wide: x.Wide}
	c.Props.Index = slices.Clone(x.Props.Index)
	for _, b := range x.Props.Blocks {
		c.Props.Blocks = append(c.Props.Blocks, slices.Clone(b))
	}
	return c
}

// spoilt writes into a list, and into its spare room.
func spoilt[T any](l []T, with T) {
	l = l[:cap(l)]
	for i := range l {
		l[i] = with
	}
}

// R3: what is handed in stays, spare room too.
func TestMemoryHandedIn(t *testing.T) {
	x := oneOfEach(6, true).made(t)
	was := cloned(x)
	room := append(slices.Repeat([]string{"a", "w\ufe0f", "z", "\xff"}, 3), "more", "and more")
	before := slices.Clone(room)
	for i, b := range x.Props.Blocks {
		x.Props.Blocks[i] = slices.Grow(b, 9)
	}
	for n := range room {
		width.Right(x)
		width.Of(x, 'a')
		width.Cluster(x, room[n])
		width.Columns(x, room[:n])
		width.Fit(x, room[:n], 2)
	}
	if !sameWidths(x, was) || !slices.Equal(room, before) {
		t.Error(x.Wide, room)
	}
}

// R3, R4: what is answered is new memory, and nothing is kept from call to call.
func TestMemoryAnswered(t *testing.T) {
	w := oneOfEach(6, true)
	was := cloned(w.made(t))
	for range 3 {
		x := w.made(t)
		y := w.made(t)
		if !sameWidths(x, was) {
			t.Fatal("changed")
		}
		for _, b := range x.Props.Blocks {
			spoilt(b, -1)
		}
		if slices.Contains(x.Props.Index, -1) {
			t.Fatal("shared")
		}
		spoilt(x.Props.Blocks, nil)
		spoilt(x.Props.Index, -1)
		if !sameWidths(y, was) {
			t.Fatal("shared")
		}
	}
	// Scalars that are known by some widths are not known by others.
	other := words{[]api.Range{{From: 'a', To: 'z', Value: 6}}, false}
	x, y := w.made(t), other.made(t)
	for range 2 {
		w.wantMeasured(t, x, []string{"a", "w", "z"})
		other.wantMeasured(t, y, []string{"a", "w", "z"})
		x.Props, y.Props = y.Props, x.Props
		w.ranges, other.ranges = other.ranges, w.ranges
	}
}
