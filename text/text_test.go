package text_test

import (
	"math"
	"slices"
	"strconv"
	"strings"
	"testing"
	"unicode/utf8"

	"virama/api"
	"virama/dfa"
	"virama/pack"
	"virama/prop"
	"virama/rule"
	"virama/text"
	"virama/trie"
)

// The document's words, written out again, on top of Go's own UTF-8.

// beginnings are what the bytes of scalars begin with, where these have more.
func beginnings() map[string]bool {
	all := map[string]bool{}
	// Scalars that share all bytes but the last one stand in groups of 64.
	for r := rune(0x80); r <= utf8.MaxRune; r += 64 {
		s := string(r)
		for n := 1; n < len(s) && utf8.ValidRune(r); n++ {
			all[s[:n]] = true
		}
	}
	return all
}

// mender mends a text.
func mender() func(s string) string {
	begin := beginnings()
	return func(s string) string {
		var b []byte
		for len(s) > 0 {
			r, n := utf8.DecodeRuneInString(s)
			for r == utf8.RuneError && n < 3 && n < len(s) && begin[s[:n+1]] {
				n++
			}
			b = utf8.AppendRune(b, r)
			s = s[n:]
		}
		return string(b)
	}
}

// in tells whether a class is in a set.
func in(set int64, c int) bool {
	return c >= 0 && c < 32 && set/int64(math.Pow(2, float64(c)))%2 == 1
}

// fit tells whether all of a list fit items, by each number of them that the first item may have.
func fit(items []api.Item, l []int) bool {
	if len(items) == 0 {
		return len(l) == 0
	}
	x := items[0]
	for n := range len(l) + 1 {
		if n > 0 && !in(x.Set, l[n-1]) {
			return false
		}
		if x.How == 0 && n != 1 || x.How == 2 && n%2 == 1 {
			continue
		}
		if fit(items[1:], l[n:]) {
			return true
		}
	}
	return false
}

// ahead tells whether a right side fits from a place on.
func ahead(p api.Pattern, l []int, at int) bool {
	for to := at; to <= len(l); to++ {
		if fit(p.Items, l[at:to]) {
			return true
		}
	}
	return false
}

// behind tells whether a left side fits up to a place.
func behind(p api.Pattern, l []int, at int) bool {
	for from := range at + 1 {
		if (from == 0 || !p.Start) && fit(p.Items, l[from:at]) {
			return true
		}
	}
	return false
}

// cutsBy are the cuts of classes, by what fits behind a place, which is told of each rule's number.
func cutsBy(rules []api.Rule, l []int, fits func(at, i int) bool) []int {
	cuts := []int{0}
	for at := 1; at < len(l); at++ {
		is := true
		for i, x := range rules {
			if fits(at, i) && ahead(x.Right, l, at) {
				is = x.Break
				break
			}
		}
		if is {
			cuts = append(cuts, at)
		}
	}
	if len(l) > 0 {
		cuts = append(cuts, len(l))
	}
	return cuts
}

// cutsOf are the cuts of classes by rules.
func cutsOf(rules []api.Rule, l []int) []int {
	return cutsBy(rules, l, func(at, i int) bool { return behind(rules[i].Left, l, at) })
}

// machineCuts are the cuts of classes by a machine.
func machineCuts(t api.Tables, l []int) []int {
	var known []int
	states := []int{0}
	for i, c := range l {
		if c >= t.Classes {
			c = -1
		}
		known = append(known, c)
		if c < 0 {
			c = t.Classes
		}
		states = append(states, t.Machine.Next[states[i]][c])
	}
	return cutsBy(t.Rules, known, func(at, i int) bool { return in(t.Machine.Fits[states[at]]>>i, 0) })
}

// answers are what there is to be told of a text.
type answers struct {
	classes, cuts, places []int
	clusters              []string
	mended                string
}

// answersOf are those of a text that is mended, by its scalars' classes, and their cuts.
func answersOf(mended string, class func(r int) int, cuts func(l []int) []int) answers {
	a := answers{mended: mended}
	scalars := []rune(mended)
	for _, r := range scalars {
		a.classes = append(a.classes, class(int(r)))
	}
	a.cuts = cuts(a.classes)
	for i, cut := range a.cuts {
		a.places = append(a.places, len(string(scalars[:cut])))
		if i > 0 {
			a.clusters = append(a.clusters, string(scalars[a.cuts[i-1]:cut]))
		}
	}
	return a
}

// oddPlaces are none of any text.
func oddPlaces() []int {
	return []int{math.MinInt, math.MinInt + 1, -1 << 32, -256, -1, 1 << 31, 1 << 32, 1<<32 + 1, math.MaxInt - 1, math.MaxInt}
}

// wantAnswers asks for all that is told of a text by right tables.
func wantAnswers(t *testing.T, x api.Tables, s string, want answers) {
	t.Helper()
	if l, e := text.Classes(x, s); !slices.Equal(l, want.classes) || e != api.OK {
		t.Fatalf("Classes of %q: %v, %d, wanted %v", s, l, e, want.classes)
	}
	if l, e := text.Cuts(x, s); !slices.Equal(l, want.cuts) || e != api.OK {
		t.Fatalf("Cuts of %q: %v, %d, wanted %v", s, l, e, want.cuts)
	}
	if l, e := text.Clusters(x, s); !slices.Equal(l, want.clusters) || e != api.OK {
		t.Fatalf("Clusters of %q: %q, %d, wanted %q", s, l, e, want.clusters)
	}
	if l, e := text.Places(x, s); !slices.Equal(l, want.places) || e != api.OK {
		t.Fatalf("Places of %q: %v, %d, wanted %v", s, l, e, want.places)
	}
	ats := []int{math.MinInt, 1 << 32, math.MaxInt}
	for at := -2; at < len(want.mended)+3; at++ {
		ats = append(ats, at)
	}
	for _, at := range ats {
		if is, e := text.Is(x, s, at); is != slices.Contains(want.places, at) || e != api.OK {
			t.Fatalf("Is of %q, %d: %v, %d, places are %v", s, at, is, e, want.places)
		}
	}
}

// wantNone asks that of a text nothing is told but an error.
func wantNone(t *testing.T, x api.Tables, s string, want api.Errno) {
	t.Helper()
	classes, e := text.Classes(x, s)
	cuts, f := text.Cuts(x, s)
	clusters, g := text.Clusters(x, s)
	places, h := text.Places(x, s)
	if len(classes)+len(cuts)+len(clusters)+len(places) != 0 || e != want || f != want || g != want || h != want {
		t.Fatal(classes, e, cuts, f, clusters, g, places, h, want)
	}
	for _, at := range append(oddPlaces(), 0, 1, 2, 3, len(s)) {
		if is, e := text.Is(x, s, at); is || e != want {
			t.Fatal(at, is, e, want)
		}
	}
}

// wantWrong asks that tables are not right, and that this is told ahead of all else.
func wantWrong(t *testing.T, x api.Tables) {
	t.Helper()
	if text.Right(x) {
		t.Fatal("right:", x.Classes, x.Rules, x.Machine)
	}
	for _, s := range []string{"", "a", "\xff", strings.Repeat("a", 2001)} {
		wantNone(t, x, s, api.ErrTables)
	}
}

// words are what a file of properties and rules' text say.
type words struct {
	names  []string
	ranges []api.Range
	rules  []api.Rule
}

// file is a line of each range.
func (w words) file() string {
	s := "# said\n"
	for _, x := range w.ranges {
		s += code(x.From) + ".." + code(x.To) + " ; " + w.names[x.Value] + " # " + strconv.Itoa(x.Value) + "\n"
	}
	return s
}

// code is a scalar in six digits.
func code(r int) string {
	s := strconv.FormatInt(int64(r), 16)
	return strings.Repeat("0", 6-len(s)) + s
}

// text is a line of each rule.
func (w words) text() string {
	s := ""
	for _, x := range w.rules {
		s += w.side(x.Left) + map[bool]string{true: " / ", false: " + "}[x.Break] + w.side(x.Right) + "\n"
	}
	return s
}

func (w words) side(p api.Pattern) string {
	var l []string
	if p.Start {
		l = append(l, "^")
	}
	for _, x := range p.Items {
		var in []string
		for i, name := range w.names {
			if x.Set>>i%2 == 1 {
				in = append(in, name)
			}
		}
		l = append(l, "["+strings.Join(in, " ")+"]"+strings.Repeat("*", x.How))
	}
	return strings.Join(l, " ")
}

// class is what the ranges say of a scalar, the first name's class if none does.
func (w words) class(r int) int {
	for _, x := range w.ranges {
		if x.From <= r && r <= x.To {
			return x.Value
		}
	}
	return 0
}

// tables are those of the words.
func (w words) tables(t *testing.T) api.Tables {
	t.Helper()
	x, line, e := text.Make(w.file(), w.text(), w.names)
	if line != 0 || e != api.OK || !text.Right(x) || x.Classes != len(w.names) || !rule.Same(x.Rules, w.rules) {
		t.Fatalf("Make(%q, %q, %q): %d, %d", w.file(), w.text(), w.names, line, e)
	}
	return x
}

// wantSaid asks of a text what the words say.
func (w words) wantSaid(t *testing.T, x api.Tables, mended, s string) {
	t.Helper()
	wantAnswers(t, x, s, answersOf(mended, w.class, func(l []int) []int { return cutsOf(w.rules, l) }))
}

// mixed are k numbers below n, mixed by a seed.
func mixed(seed, k, n int) []int {
	l := make([]int, k)
	x := uint32(seed)*2654435761 + 12345
	for i := range l {
		x = x*1664525 + 1013904223
		l[i] = int(x>>8) % n
	}
	return l
}

// joined are pieces, one behind the other, as numbers tell.
func joined(pieces []string, numbers []int) string {
	s := ""
	for _, i := range numbers {
		s += pieces[i]
	}
	return s
}

// scalarPieces are scalars of all rows, at the rows' ends, and others that are like them in some bytes.
func scalarPieces() []string {
	var l []string
	for _, r := range []rune{0, 0x41, 0x61, 0x7f, 0x80, 0x161, 0x7ff, 0x800, 0xfff, 0x1000, 0x1061, 0xcfff, 0xd7ff, 0xe000, 0xfffd, 0xffff, 0x10000, 0x10061, 0x1f1e6, 0x3ffff, 0x40000, 0xfffff, 0x100000, 0x100061, 0x10ffff} {
		l = append(l, string(r))
	}
	return l
}

// badPieces are ill-formed, alone or one behind the other.
func badPieces() []string {
	return []string{"\x80", "\xbf", "\xc0", "\xc1\x80", "\xc3", "\xe0\xa0", "\xe0\x80", "\xe2\x82", "\xed\xa0\x80", "\xee\x80", "\xf0\x9f\x98", "\xf0\x90", "\xf0\x80\x80", "\xf4\x90\x80\x80", "\xf5", "\xff", "\xf4\x8f\xbf"}
}

// mixedRanges are some that do not lap, each of a name below n.
func mixedRanges(seed, k, n int) []api.Range {
	ends := []int{0, 0x41, 0x42, 0x61, 0x62, 0x7f, 0x80, 0x100, 0x161, 0x162, 0x7ff, 0x800, 0xfff, 0x1000, 0x1061, 0xcfff, 0xd000, 0xd7ff, 0xe000, 0xfffd, 0xfffe, 0x10000, 0x10061, 0x1f1e6, 0x3ffff, 0x40000, 0xfffff, 0x100000, 0x10ffff, 0x110000}
	var l []api.Range
	from := 0
	for i, v := range mixed(seed, 2*k, n*5) {
		from += v % 4
		if i%2 == 1 || from+2 >= len(ends) {
			continue
		}
		to := from + v/n%2
		l = append(l, api.Range{From: ends[from], To: ends[to+1] - 1, Value: v % n})
		from = to + 1
	}
	// Files are read in any order.
	if seed%2 == 0 {
		slices.Reverse(l)
	}
	return l
}

// mixedRules are k rules of n classes.
func mixedRules(seed, k, n int) []api.Rule {
	var l []api.Rule
	for i := range k {
		m := mixed(seed*100+i, 12, 1<<n*3)
		var sides [2][]api.Item
		for side := range sides {
			for _, v := range m[side*4+2 : side*4+2+m[side]%4] {
				sides[side] = append(sides[side], api.Item{Set: int64(v / 3), How: v % 3})
			}
		}
		l = append(l, api.Rule{Left: api.Pattern{Start: m[10]%5 == 0, Items: sides[0]}, Right: api.Pattern{Items: sides[1]}, Break: m[11]%3 == 0})
	}
	return l
}

// clusterWords are the text of rules that clusters are cut by, and their names.
func clusterWords() (string, []string) {
	names := strings.Fields("Other CR LF Control Extend ZWJ RI Prepend Mark L V T LV LVT Pic")
	return "CR + LF\n[Control CR LF] /\n/ [Control CR LF]\nL + [L V LV LVT]\n[LV V] + [V T]\n[LVT T] + T\n+ [Extend ZWJ] # all of them\n+ Mark\nPrepend +\n\nPic Extend* ZWJ + Pic\n^ RI** RI + RI\n[^RI] RI** RI + RI\n", names
}

// clusterFile says of some scalars what they are to these rules.
const clusterFile = `# some of them
000D          ; CR
000A          ; LF
0000..0009    ; Control # but these
000B..000C    ; Control
000E..001F    ; Control
0300..036F    ; Extend
094D          ; Extend
200C          ; Extend
200D          ; ZWJ
1F3FB..1F3FF  ; Extend
E0100..E01EF  ; Extend

1F1E6..1F1FF  ; RI
0600..0605    ; Prepend
0903          ; Mark
1100..115F    ; L
1160..11A7    ; V
11A8..11FF    ; T
AC00          ; LV
AC01..AC1B    ; LVT
1F600..1F64F  ; Pic
1F468..1F469  ; Pic
2764          ; Pic
FFFD          ; Pic # what is mended, too
`

// clusterTables are the tables of these.
func clusterTables(t *testing.T) api.Tables {
	t.Helper()
	rules, names := clusterWords()
	x, line, e := text.Make(clusterFile, rules, names)
	if line != 0 || e != api.OK {
		t.Fatal(line, e)
	}
	return x
}

// cloned are tables in new memory.
func cloned(x api.Tables) api.Tables {
	c := api.Tables{Classes: x.Classes}
	c.Props.Index = slices.Clone(x.Props.Index)
	for _, b := range x.Props.Blocks {
		c.Props.Blocks = append(c.Props.Blocks, slices.Clone(b))
	}
	for _, r := range x.Rules {
		r.Left.Items = slices.Clone(r.Left.Items)
		r.Right.Items = slices.Clone(r.Right.Items)
		c.Rules = append(c.Rules, r)
	}
	for _, row := range x.Machine.Next {
		c.Machine.Next = append(c.Machine.Next, slices.Clone(row))
	}
	c.Machine.Fits = slices.Clone(x.Machine.Fits)
	return c
}

// sameTables tells whether tables, right or not, are the same.
func sameTables(a, b api.Tables) bool {
	return a.Classes == b.Classes && trie.Same(a.Props, b.Props) && rule.Same(a.Rules, b.Rules) && dfa.Same(a.Machine, b.Machine)
}

// still are tables of one state, in which these rules fit; a scalar's class is its place in its row, less 97, where that is one.
func still(n int, fits int64, rules ...api.Rule) api.Tables {
	block := make([]int, 256)
	for i := range 32 {
		block[97+i] = i
	}
	x := api.Tables{Classes: n, Props: api.Trie{Index: make([]int, 4352), Blocks: [][]int{block}}, Rules: rules}
	x.Machine = api.Machine{Next: [][]int{make([]int, n+1)}, Fits: []int64{fits}}
	return x
}

// stillClass is what these say of a scalar.
func stillClass(r int) int {
	if r %= 256; r >= 97 && r < 97+32 {
		return r - 97
	}
	return 0
}

// P14.2: the document's example, and clusters by hand.
func TestByHand(t *testing.T) {
	x := clusterTables(t)
	const bad = "\xef\xbf\xbd"
	for _, c := range []struct {
		s        string
		clusters []string
		places   []int
	}{
		{"", nil, []int{0}},
		{"a", []string{"a"}, []int{0, 1}},
		{"a\u0301b", []string{"a\u0301", "b"}, []int{0, 3, 4}},
		{"\u0301", []string{"\u0301"}, []int{0, 2}},
		{"\u0301\u0301a", []string{"\u0301\u0301", "a"}, []int{0, 4, 5}},
		{"\r\n", []string{"\r\n"}, []int{0, 2}},
		{"\n\r", []string{"\n", "\r"}, []int{0, 1, 2}},
		{"\r\r\n\n", []string{"\r", "\r\n", "\n"}, []int{0, 1, 3, 4}},
		{"a\r\u0301", []string{"a", "\r", "\u0301"}, []int{0, 1, 2, 4}},
		{"\u1100\u1160\u11a8\u11a8\u1160", []string{"\u1100\u1160\u11a8\u11a8", "\u1160"}, []int{0, 12, 15}},
		{"\uac00\u1160\uac01\u11a8\u1100\uac01", []string{"\uac00\u1160", "\uac01\u11a8", "\u1100\uac01"}, []int{0, 6, 12, 18}},
		{"\u0600a\u0903\u0600\n", []string{"\u0600a\u0903", "\u0600", "\n"}, []int{0, 6, 8, 9}},
		{"\U0001f1e6\U0001f1e7\U0001f1e8", []string{"\U0001f1e6\U0001f1e7", "\U0001f1e8"}, []int{0, 8, 12}},
		{"a\U0001f1e6\U0001f1e7\U0001f1e8\U0001f1e9b", []string{"a", "\U0001f1e6\U0001f1e7", "\U0001f1e8\U0001f1e9", "b"}, []int{0, 1, 9, 17, 18}},
		{"\U0001f468\u200d\U0001f469a", []string{"\U0001f468\u200d\U0001f469", "a"}, []int{0, 11, 12}},
		{"\U0001f468\U0001f3fb\u200d\u2764x\u200d\u2764", []string{"\U0001f468\U0001f3fb\u200d\u2764", "x\u200d", "\u2764"}, []int{0, 14, 18, 21}},
		{"\xff", []string{bad}, []int{0, 3}},
		{"a\xff\u0301", []string{"a", bad + "\u0301"}, []int{0, 1, 6}},
		{"\xe2\x82a", []string{bad, "a"}, []int{0, 3, 4}},
		{"\xff\u200d\xed\xa0", []string{bad + "\u200d" + bad, bad}, []int{0, 9, 12}},
	} {
		clusters, e := text.Clusters(x, c.s)
		places, f := text.Places(x, c.s)
		if !slices.Equal(clusters, c.clusters) || !slices.Equal(places, c.places) || e != api.OK || f != api.OK {
			t.Errorf("of %q: %q, %d, %v, %d, wanted %q, %v", c.s, clusters, e, places, f, c.clusters, c.places)
		}
		for at := -1; at < len(c.s)*3+2; at++ {
			if is, e := text.Is(x, c.s, at); is != slices.Contains(c.places, at) || e != api.OK {
				t.Errorf("of %q: %d is one: %v, %d", c.s, at, is, e)
			}
		}
	}
	if l, e := text.Classes(x, "a\r\n\x00\u0301\u200d\U0001f1e6\xffa"); !slices.Equal(l, []int{0, 1, 2, 3, 4, 5, 6, 14, 0}) || e != api.OK {
		t.Error(l, e)
	}
	if l, e := text.Cuts(x, "\xe2\x82\u0301bb\r\n"); !slices.Equal(l, []int{0, 2, 3, 4, 6}) || e != api.OK {
		t.Error(l, e)
	}
	y, _, _ := text.Make("0300..036f ; Extend", "+ Extend", []string{"Other", "Extend"})
	if l, e := text.Clusters(y, "\x61\xcc\x81\x62"); !slices.Equal(l, []string{"\x61\xcc\x81", "\x62"}) || e != api.OK {
		t.Error(l, e)
	}
}

// P14.1, P14.2, T1: clusters by files' tables are what the files' words say.
func TestWords(t *testing.T) {
	pieces := append(scalarPieces(), badPieces()...)
	mended := mender()
	for seed := range 700 {
		n := 1 + seed%4
		w := words{[]string{"A", "B_1", "C", "a"}[:n], mixedRanges(seed, seed%12, n), mixedRules(seed, seed%7, n)}
		x := w.tables(t)
		for k := range 3 {
			s := joined(pieces, mixed(seed*3+k, (seed+k*3)%11, len(pieces)))
			w.wantSaid(t, x, mended(s), s)
		}
		// Few scalars that come again and again.
		s := joined(pieces, slices.Repeat(mixed(seed, 1+seed%3, len(pieces)), 3))
		w.wantSaid(t, x, mended(s), s)
	}
}

// P14.2: each scalar at the rows' ends, and each bad piece, alone and by two.
func TestPieces(t *testing.T) {
	pieces := append(scalarPieces(), badPieces()...)
	mended := mender()
	w := words{[]string{"A", "B", "C"}, mixedRanges(7, 12, 3), nil}
	w.rules = []api.Rule{{Right: api.Pattern{Items: []api.Item{{Set: 2}}}}, {Left: api.Pattern{Items: []api.Item{{Set: 4}, {Set: 1}}}}}
	x := w.tables(t)
	for _, a := range pieces {
		w.wantSaid(t, x, mended(a), a)
		for _, b := range pieces {
			w.wantSaid(t, x, mended(a+b), a+b)
		}
	}
	// All texts of up to three bytes out of those at which rows begin and end.
	bytes := []string{"\x00", "\x7f", "\x80", "\x8f", "\x90", "\x9f", "\xa0", "\xbf", "\xc2", "\xe0", "\xed", "\xef", "\xf0", "\xf4"}
	texts := []string{""}
	for i := 0; i < len(texts); i++ {
		s := texts[i]
		for _, b := range bytes {
			if len(s) < 3 {
				texts = append(texts, s+b)
			}
		}
		w.wantSaid(t, x, mended(s), s)
	}
}

// P14.2: a scalar's class is what Props says, be it one of the tables' classes or not; one that is none is in no set.
func TestOtherProps(t *testing.T) {
	mended := mender()
	for n := 1; n <= 32; n++ {
		whole := api.Item{Set: 1<<n - 1}
		last := api.Item{Set: 1 << (n - 1)}
		for _, rules := range [][]api.Rule{{{Right: api.Pattern{Items: []api.Item{whole}}}}, {{Right: api.Pattern{Items: []api.Item{last}}}}, {{Right: api.Pattern{Items: []api.Item{whole, last}}}, {Right: api.Pattern{Items: []api.Item{whole, whole}}}}} {
			x := still(n, 1<<len(rules)-1, rules...)
			for seed := range 9 {
				var s []rune
				for _, c := range mixed(seed+n, 9, 40) {
					s = append(s, rune(0x61+c+seed%3*0x100))
				}
				for _, s := range []string{string(s), string(s[:seed%9]) + "\xff"} {
					wantAnswers(t, x, s, answersOf(mended(s), stillClass, func(l []int) []int { return machineCuts(x, l) }))
				}
			}
		}
	}
	x := still(2, 1, api.Rule{Right: api.Pattern{Items: []api.Item{{Set: 3}}}})
	if l, e := text.Classes(x, "abc\u0180z"); !slices.Equal(l, []int{0, 1, 2, 31, 25}) || e != api.OK {
		t.Error(l, e)
	}
	if l, e := text.Clusters(x, "abcabab\u0180z"); !slices.Equal(l, []string{"ab", "cabab", "\u0180", "z"}) || e != api.OK {
		t.Error(l, e)
	}
}

// P14.2: it is the machine that says which left sides fit.
func TestOtherMachines(t *testing.T) {
	mended := mender()
	for seed := range 600 {
		rules := mixedRules(seed, seed%9, 3)
		x := still(3, 0, rules...)
		states := 1 + seed%5
		x.Machine = api.Machine{}
		for i := range states {
			x.Machine.Next = append(x.Machine.Next, mixed(seed*10+i, 4, states))
			fits := int64(0)
			for r, is := range mixed(seed*9+i, len(rules), 2) {
				fits |= int64(is) << r
			}
			x.Machine.Fits = append(x.Machine.Fits, fits)
		}
		if !text.Right(x) {
			t.Fatal(seed)
		}
		s := joined([]string{"a", "b", "c", "d", "\u0161", "\u0462", "\xff", "\xe2\x82"}, mixed(seed, seed%12, 8))
		wantAnswers(t, x, s, answersOf(mended(s), stillClass, func(l []int) []int { return machineCuts(x, l) }))
	}
	// It looks for a rule's right side alone, be its left side what it will.
	x := still(2, 1, api.Rule{Left: api.Pattern{Items: []api.Item{{Set: 2}}}, Right: api.Pattern{Items: []api.Item{{Set: 1}}}})
	if l, e := text.Clusters(x, "aab"); !slices.Equal(l, []string{"aa", "b"}) || e != api.OK {
		t.Error(l, e)
	}
}

// wantMade asks that Make answers what the layers below do, one behind the other.
func wantMade(t *testing.T, props, rules string, names []string) {
	t.Helper()
	want := api.Tables{Classes: len(names)}
	ranges, line, e := prop.Read(props, names, 0, false)
	if e == api.OK {
		want.Props, _ = trie.Build(ranges)
		want.Rules, line, e = rule.Parse(rules, names)
	}
	if e == api.OK {
		want.Machine, e = dfa.Compile(want.Rules, len(names))
	}
	if e != api.OK {
		want = api.Tables{}
	}
	x, n, f := text.Make(props, rules, names)
	if !sameTables(x, want) || n != line || f != e || text.Right(x) != (e == api.OK) {
		t.Fatalf("Make(%q, %q, %q): %d, %d, wanted %d, %d", props, rules, names, n, f, line, e)
	}
}

// P14.1: what is made, and what is wrong, by hand.
func TestMake(t *testing.T) {
	names := []string{"A", "B", "C"}
	const tooLong = "A A A A A A A A A A A +"
	many := func(s string, k int) string { return strings.Repeat(s, k) }
	for i, x := range []struct {
		props, rules string
		names        []string
		line         int
		e            api.Errno
	}{
		{"", "", names, 0, api.OK},
		{"", "", []string{"A"}, 0, api.OK},
		{"", "", nil, 0, api.ErrArg},
		{"", "", []string{}, 0, api.ErrArg},
		{"", "", []string{"A", "A"}, 0, api.ErrArg},
		{"", "", []string{"A", "B C"}, 0, api.ErrArg},
		{"", "", []string{""}, 0, api.ErrArg},
		{"\nx", "\nx", []string{"A", ""}, 0, api.ErrArg},
		{many("#", 20001), "x", []string{"A", "A"}, 0, api.ErrArg},
		{many("#", 20001), "x", names, 0, api.ErrFile},
		{many("#", 20000), "+", names, 0, api.OK},
		{"41;A", "x", names, 1, api.ErrHex},
		{"\n0041;A\n0042..0041;A\n0041;A", "x", names, 3, api.ErrRange},
		{"0041;A\n\n0041", "x", names, 3, api.ErrField},
		{"0041;A\n\n0042;D\nx", "x", names, 4, api.ErrHex},
		{"0041;A\n\n0042;D\n0041;B", "x", names, 3, api.ErrName},
		{"0041;A\n0041..0042;B\n0050;D", "x", names, 2, api.ErrLap},
		{"0041;A;D", "+", names, 0, api.OK},
		{"0041;D;A", "+", names, 1, api.ErrName},
		{"0041;a", "+", names, 1, api.ErrName},
		{many("0041;D\n", 301), "", names, 301, api.ErrMany},
		{"0041;A", "x", names, 1, api.ErrRule},
		{"", "A +\n\n# +\nA + D\nx", names, 4, api.ErrRule},
		{"", "+\n/\n\n+ ^", names, 4, api.ErrRule},
		{"", tooLong, names, 1, api.ErrRule},
		{"", many("+\n", 40), names, 0, api.OK},
		{"", many("+\n", 41), names, 41, api.ErrMany},
		{"", many("\n+\n", 41), names, 82, api.ErrMany},
		{"", "A . . . . . . . . . +", names, 0, api.ErrMachine},
		{"0041;A", "+\n\nA . . . . . . . . . +\n", names, 0, api.ErrMachine},
		{"0041;A", "A . . . . . . . . . +\nx", names, 2, api.ErrRule},
	} {
		y, line, e := text.Make(x.props, x.rules, x.names)
		if line != x.line || e != x.e || e != api.OK && !sameTables(y, api.Tables{}) {
			t.Error(i, line, e)
		}
		wantMade(t, x.props, x.rules, x.names)
	}
	y, _, _ := text.Make("0100..01ff;C # a row\n0061;B", "A + [B C]\n/", names)
	if y.Classes != 3 || len(y.Props.Index) != 4352 || len(y.Props.Blocks) != 3 || y.Props.Index[1] != 1 || y.Props.Index[2] != 2 || y.Props.Blocks[0][97] != 1 || y.Props.Blocks[1][7] != 2 {
		t.Error(y.Classes, y.Props)
	}
	right := []api.Rule{{Left: api.Pattern{Items: []api.Item{{Set: 1}}}, Right: api.Pattern{Items: []api.Item{{Set: 6}}}}, {Break: true}}
	if !rule.Same(y.Rules, right) || !dfa.Same(y.Machine, api.Machine{Next: [][]int{{1, 0, 0, 0}, {1, 0, 0, 0}}, Fits: []int64{2, 3}}) {
		t.Error(y.Rules, y.Machine)
	}
}

// P14.1: as many names as there may be, and one more.
func TestNames(t *testing.T) {
	var names []string
	file, rules, texts := "", "", ""
	for n := 1; n <= 34; n++ {
		name := "N" + strconv.Itoa(n)
		names = append(names, name)
		file += "00" + strconv.FormatInt(int64(0x30+n), 16) + ";" + name + "\n"
		rules = name + "* + " + name + "\n" + "N1 / N1\n"
		texts += string(rune(0x30 + n))
		wantMade(t, file, rules, names)
		x, line, e := text.Make(file, rules, names)
		if n > 32 {
			if line != 0 || e != api.ErrArg {
				t.Error(n, line, e)
			}
			continue
		}
		l, f := text.Classes(x, texts)
		if e != api.OK || f != api.OK || len(l) != n || l[n-1] != n-1 || l[0] != 0 {
			t.Error(n, e, f, l)
		}
		last := texts[n-1:]
		if l, f := text.Clusters(x, "1"+last+last+"\u3000"); f != api.OK || n > 1 && !slices.Equal(l, []string{"1" + last + last, "\u3000"}) {
			t.Error(n, l, f)
		}
	}
}

// P14.1: files and rules that are right, or wrong in some line, or both.
func TestMixedFiles(t *testing.T) {
	lines := []string{"0041;A", "0042..0050 ; B", "# all", "", "0060;C # c", "1F600..1F64F;B", "0043;A", "61;A", "0042;D", "0070..0061;A", "0041", "110000;A"}
	rules := []string{"A + B", ". / .", "# + /", "", "^ A** A + A", "+ C*", "[A B]* C + [^A]", "A B", "A + D", "/ ^", "A . . . . . . . . +", "B . . . . . . . . . /"}
	for seed := range 1500 {
		var props, text string
		for _, i := range mixed(seed, seed%5, 8+seed%5) {
			props += lines[i] + "\n"
		}
		for _, i := range mixed(seed+1, seed%4, 8+seed/5%5) {
			text += rules[i] + "\n"
		}
		wantMade(t, props, text, []string{"A", "B", "C"})
	}
}

// P14.1: machines of as many states as there may be, and one more.
func TestStates(t *testing.T) {
	var names []string
	for i := range 30 {
		names = append(names, "N"+strconv.Itoa(i))
	}
	for last := 1; last <= 10; last++ {
		rules := ""
		for i, name := range names {
			k := 10
			if i == 29 {
				k = last
			}
			rules += "^" + strings.Repeat(" "+name, k) + " +\n"
		}
		// Each item has a state, and there are two more: the first one, and one in which nothing can fit any more.
		want := api.OK
		if 29*10+last+2 > 300 {
			want = api.ErrMachine
		}
		wantMade(t, "", rules, names)
		if _, line, e := text.Make("", rules, names); line != 0 || e != want {
			t.Error(last, line, e)
		}
	}
}

// P14.1: tables that are wrong, each in one way.
func TestWrongTables(t *testing.T) {
	x := clusterTables(t)
	if !text.Right(x) || !text.Right(cloned(x)) {
		t.Fatal("not right")
	}
	wantWrong(t, api.Tables{})
	for _, n := range append(oddPlaces(), 0, 1, 2, 13, 14, 16, 31, 32, 33, 64, 65) {
		y := x
		y.Classes = n
		wantWrong(t, y)
		y.Rules, y.Machine = nil, api.Machine{Next: x.Machine.Next, Fits: make([]int64, len(x.Machine.Fits))}
		wantWrong(t, y)
	}
	for _, change := range []func(y *api.Tables){
		func(y *api.Tables) { y.Props = api.Trie{} },
		func(y *api.Tables) { y.Props.Index = nil },
		func(y *api.Tables) { y.Props.Blocks = nil },
		func(y *api.Tables) { y.Props.Index = y.Props.Index[1:] },
		func(y *api.Tables) { y.Props.Index = append(y.Props.Index, 0) },
		func(y *api.Tables) { y.Props.Index[4351] = len(y.Props.Blocks) },
		func(y *api.Tables) { y.Props.Index[7] = -1 },
		func(y *api.Tables) { y.Props.Blocks[2][255] = 32 },
		func(y *api.Tables) { y.Props.Blocks[0][0] = -1 },
		func(y *api.Tables) { y.Props.Blocks[1] = y.Props.Blocks[1][1:] },
		func(y *api.Tables) { y.Props.Blocks = append(y.Props.Blocks, nil) },
		func(y *api.Tables) { y.Rules = append(y.Rules, make([]api.Rule, 29)...) },
		func(y *api.Tables) { y.Rules[11].Right.Start = true },
		func(y *api.Tables) { y.Rules[3].Left.Items[0].Set = 1 << 15 },
		func(y *api.Tables) { y.Rules[3].Right.Items[0].How = 3 },
		func(y *api.Tables) { y.Rules[9].Left.Items = make([]api.Item, 11) },
		func(y *api.Tables) { y.Rules = y.Rules[:11] },
		func(y *api.Tables) { y.Rules = nil },
		func(y *api.Tables) { y.Machine = api.Machine{} },
		func(y *api.Tables) { y.Machine.Next[1] = y.Machine.Next[1][1:] },
		func(y *api.Tables) { y.Machine.Next[1][15] = len(y.Machine.Next) },
		func(y *api.Tables) { y.Machine.Next[0][0] = -1 },
		func(y *api.Tables) { y.Machine.Fits = y.Machine.Fits[1:] },
		func(y *api.Tables) { y.Machine.Fits[0] |= 1 << 12 },
		func(y *api.Tables) { y.Machine.Fits[1] = 1 << 40 },
		func(y *api.Tables) { y.Machine.Fits[1] = -1 },
	} {
		y := cloned(x)
		change(&y)
		wantWrong(t, y)
	}
	// Right ones, though nobody makes such: a trie that is not least, a rule that fits nowhere, a state that is not reached.
	y := cloned(x)
	y.Props.Blocks = append(y.Props.Blocks, make([]int, 256), make([]int, 256))
	y.Rules = append(y.Rules, api.Rule{})
	y.Machine.Next = append(y.Machine.Next, make([]int, 16))
	y.Machine.Fits = append(y.Machine.Fits, 1<<13-1)
	was, _ := text.Clusters(x, clusterFile)
	if l, e := text.Clusters(y, clusterFile); !text.Right(y) || !slices.Equal(l, was) || e != api.OK {
		t.Error(e)
	}
}

// P14.1: how many classes there may be, and the rules that a machine knows.
func TestRightByClasses(t *testing.T) {
	for n := 1; n <= 40; n++ {
		if x := still(n, 0); text.Right(x) != (n <= 32) {
			t.Error(n)
		}
	}
	wantWrong(t, still(0, 0))
	wantWrong(t, still(33, 0))
	for k := range 41 {
		rules := make([]api.Rule, k)
		for fits := range 41 {
			if x := still(2, 1<<fits, rules...); text.Right(x) != (fits < k) {
				t.Error(k, fits)
			}
		}
	}
}

// P14.2: texts of as many bytes as there may be, and more.
func TestLongTexts(t *testing.T) {
	x := clusterTables(t)
	for _, piece := range []string{"a", "\xff", "\u0301", "\u00e9", "\r\n", "\u4e2d", "\U0001f1e6", "\U0001f468\u200d", "\xe2\x82", "a\xf0\x9f\x98"} {
		for _, n := range []int{1996, 1997, 1998, 1999, 2000} {
			s := strings.Repeat(piece, 2000)[:n]
			if l, e := text.Clusters(x, s); len(l) == 0 || e != api.OK {
				t.Error(piece, n, len(l), e)
			}
		}
		for _, n := range []int{2001, 2002, 2048, 4000} {
			wantNone(t, x, strings.Repeat(piece, 4000)[:n], api.ErrText)
		}
	}
	wantNone(t, x, strings.Repeat("a", 1<<20), api.ErrText)
	for _, c := range []struct {
		s                       string
		scalars, clusters, last int
	}{
		{strings.Repeat("\xff", 2000), 2000, 2000, 6000},
		{strings.Repeat("\u0301", 1000), 1000, 1, 2000},
		{strings.Repeat("a", 1998) + "\u0301", 1999, 1998, 2000},
		{strings.Repeat("\U0001f1e6", 500), 500, 250, 2000},
		{strings.Repeat("a\r\n", 666) + "\r\n", 2000, 1333, 2000},
	} {
		classes, e := text.Classes(x, c.s)
		cuts, f := text.Cuts(x, c.s)
		clusters, g := text.Clusters(x, c.s)
		places, h := text.Places(x, c.s)
		if len(classes) != c.scalars || len(cuts) != c.clusters+1 || cuts[c.clusters] != c.scalars || len(clusters) != c.clusters || len(places) != c.clusters+1 || places[c.clusters] != c.last {
			t.Error(len(classes), e, len(cuts), f, len(clusters), g, len(places), h)
		}
		for _, at := range []int{0, c.last, c.last - 1, c.last + 1, 2000, 3000} {
			if is, e := text.Is(x, c.s, at); is != slices.Contains(places, at) || e != api.OK {
				t.Error(at, is, e)
			}
		}
	}
}

// P14.3, T2: clusters are not empty, joined they are the mended text, and that has the same ones.
func TestJoined(t *testing.T) {
	x := clusterTables(t)
	mended := mender()
	pieces := append(badPieces(), strings.Split("a|b|\r|\n|\x00|\u0301|\u200d|\U0001f1e6|\u0600|\u0903|\u1100|\u1160|\u11a8|\uac00|\uac01|\U0001f600|\u2764|\U000e0100", "|")...)
	for seed := range 1000 {
		s := joined(pieces, mixed(seed, seed%100, len(pieces)))
		clusters, e := text.Clusters(x, s)
		if e != api.OK || slices.Contains(clusters, "") || strings.Join(clusters, "") != mended(s) {
			t.Fatalf("%q: %q, %d", s, clusters, e)
		}
		again, e := text.Clusters(x, mended(s))
		places, _ := text.Places(x, s)
		same, _ := text.Places(x, mended(s))
		if e != api.OK || !slices.Equal(again, clusters) || !slices.Equal(places, same) || len(places) != len(clusters)+1 {
			t.Fatalf("%q: %q, %q, %d", s, clusters, again, e)
		}
		for i, c := range clusters {
			if places[i+1]-places[i] != len(c) || !strings.HasPrefix(mended(s)[places[i]:], c) {
				t.Fatal(places, clusters)
			}
		}
	}
}

// T1: a trie that is packed and loaded cuts as it did.
func TestPacked(t *testing.T) {
	x := clusterTables(t)
	s, e := pack.Pack(x.Props)
	if e != api.OK {
		t.Fatal(e)
	}
	y := x
	if y.Props, e = pack.Load(s); e != api.OK || !text.Right(y) {
		t.Fatal(e)
	}
	for _, s := range []string{"", "a\u0301\r\n", strings.Join(scalarPieces(), ""), strings.Join(badPieces(), "a"), "\U0001f468\u200d\U0001f469\U0001f1e6\U0001f1e6\U0001f1e6"} {
		a, _ := text.Clusters(x, s)
		b, e := text.Clusters(y, s)
		if !slices.Equal(a, b) || e != api.OK {
			t.Errorf("%q: %q, %q, %d", s, a, b, e)
		}
	}
}

// spoilt writes into a list, and into its spare room.
func spoilt[T any](l []T, with T) {
	l = l[:cap(l)]
	for i := range l {
		l[i] = with
	}
}

// R3: what is handed in stays, spare room too.
func TestMemoryHandedIn(t *testing.T) {
	x := clusterTables(t)
	was := cloned(x)
	x.Rules, x.Machine.Fits = slices.Grow(x.Rules, 9), slices.Grow(x.Machine.Fits, 9)
	for i, b := range x.Props.Blocks {
		x.Props.Blocks[i] = slices.Grow(b, 9)
	}
	spare := x.Rules[len(x.Rules):cap(x.Rules)]
	for _, s := range []string{"", "a", "\xff", clusterFile, strings.Repeat("a", 3000)} {
		text.Right(x)
		text.Classes(x, s)
		text.Cuts(x, s)
		text.Clusters(x, s)
		text.Places(x, s)
		text.Is(x, s, 3)
	}
	if !sameTables(x, was) || !rule.Same(spare, make([]api.Rule, len(spare))) {
		t.Error(x)
	}
	names := []string{"A", "B", "A", "-"}
	for _, k := range []int{1, 2, 3} {
		text.Make("0041;A", "A + A", names[:k])
		text.Make("0041;A", "A + B B B", names[:k:k])
	}
	if !slices.Equal(names, []string{"A", "B", "A", "-"}) {
		t.Error(names)
	}
}

// R3, R4: what is answered is new memory, and nothing is kept from call to call.
func TestMemoryAnswered(t *testing.T) {
	rules, names := clusterWords()
	x := clusterTables(t)
	was := cloned(x)
	for i, s := range []string{"", "a", "a\u0301b\r\n\xff", clusterFile[:200]} {
		want := answersOf(strings.ReplaceAll(s, "\xff", "\ufffd"), func(r int) int { return trie.Value(was.Props, r) }, func(l []int) []int { return machineCuts(was, l) })
		for range 2 {
			wantAnswers(t, x, s, want)
			classes, _ := text.Classes(x, s)
			cuts, _ := text.Cuts(x, s)
			clusters, _ := text.Clusters(x, s)
			places, _ := text.Places(x, s)
			spoilt(cuts, -7)
			if !slices.Equal(classes, want.classes) || !slices.Equal(places, want.places) || !slices.Equal(clusters, want.clusters) {
				t.Fatal(i)
			}
			spoilt(classes, -7)
			spoilt(clusters, "?")
			if !slices.Equal(places, want.places) {
				t.Fatal(i)
			}
			spoilt(places, -7)
		}
	}
	y := clusterTables(t)
	spoilt(y.Props.Index, -1)
	for _, b := range y.Props.Blocks {
		spoilt(b, -1)
	}
	for _, r := range y.Rules {
		spoilt(r.Left.Items, api.Item{Set: -1})
		spoilt(r.Right.Items, api.Item{Set: -1})
	}
	spoilt(y.Rules, api.Rule{})
	for _, row := range y.Machine.Next {
		spoilt(row, -1)
	}
	spoilt(y.Machine.Fits, -1)
	if !sameTables(x, was) || !sameTables(clusterTables(t), was) {
		t.Error("tables share memory")
	}
	z, _, _ := text.Make(clusterFile, rules, names)
	spoilt(names, "?")
	if !sameTables(z, was) {
		t.Error("tables hang on names")
	}
}

// R3: no two lists of tables share any memory, spare room too.
func TestListsOfTables(t *testing.T) {
	x := clusterTables(t)
	was := cloned(x)
	for i, row := range x.Machine.Next {
		spoilt(row, -1)
		copy(row, was.Machine.Next[i])
		if !sameTables(x, was) {
			t.Fatal("row", i)
		}
	}
	for i, b := range x.Props.Blocks {
		spoilt(b, -1)
		copy(b, was.Props.Blocks[i])
		if !sameTables(x, was) {
			t.Fatal("block", i)
		}
	}
	for i, r := range x.Rules {
		for _, l := range [][2][]api.Item{{r.Left.Items, was.Rules[i].Left.Items}, {r.Right.Items, was.Rules[i].Right.Items}} {
			spoilt(l[0], api.Item{Set: -1})
			copy(l[0], l[1])
			if !sameTables(x, was) {
				t.Fatal("rule", i)
			}
		}
	}
}

// R4: the same text by tables in turn, and by tables that were changed meanwhile.
func TestNothingIsKept(t *testing.T) {
	x := clusterTables(t)
	y, _, _ := text.Make("0061;B", "A + A\n", []string{"A", "B"})
	const s = "aab\u0301\r\n\U0001f1e6\U0001f1e6"
	for range 3 {
		for i, want := range [][]string{{"a", "a", "b\u0301", "\r\n", "\U0001f1e6\U0001f1e6"}, {"a", "a", "b\u0301\r\n\U0001f1e6\U0001f1e6"}} {
			if l, e := text.Clusters([]api.Tables{x, y}[i], s); !slices.Equal(l, want) || e != api.OK {
				t.Errorf("%q %d", l, e)
			}
		}
	}
	y.Props.Blocks[0]['a'] = 0
	if l, e := text.Clusters(y, s); !slices.Equal(l, []string{s}) || e != api.OK {
		t.Errorf("%q %d", l, e)
	}
	y.Machine.Fits[0] = 2
	wantWrong(t, y)
}

// R3: nil and empty lists are one.
func TestNilAndEmpty(t *testing.T) {
	for _, rules := range [][]api.Rule{nil, {}} {
		x := still(2, 0)
		x.Rules = rules
		if l, e := text.Clusters(x, "ab"); !text.Right(x) || !slices.Equal(l, []string{"a", "b"}) || e != api.OK {
			t.Error(l, e)
		}
		if l, e := text.Cuts(x, ""); !slices.Equal(l, []int{0}) || e != api.OK {
			t.Error(l, e)
		}
	}
	for _, items := range [][]api.Item{nil, {}} {
		x := still(1, 1, api.Rule{Left: api.Pattern{Items: items}, Right: api.Pattern{Items: items}})
		if l, e := text.Clusters(x, "ab\xff"); !slices.Equal(l, []string{"ab\ufffd"}) || e != api.OK {
			t.Error(l, e)
		}
	}
}

// R1: as many distinct scalars as a text may have, by a trie of as many blocks as there are rows.
func TestMuch(t *testing.T) {
	x := still(32, 0)
	x.Props.Blocks = nil
	for i := range x.Props.Index {
		x.Props.Index[i] = i
		x.Props.Blocks = append(x.Props.Blocks, slices.Repeat([]int{i % 31, 31}, 128))
	}
	class := func(r int) int {
		if r%2 == 1 {
			return 31
		}
		return r / 256 % 31
	}
	var s []rune
	for i := range 200 {
		s = append(s, rune(0x80+i*9), rune(0x900+i*77))
	}
	s = append(s, 0x10ffff, 0x10fffe, 0, 0x100000, 0xe000, 0xd7ff)
	want := answersOf(string(s), class, func(l []int) []int { return machineCuts(x, l) })
	if l, e := text.Classes(x, string(s)); !slices.Equal(l, want.classes) || e != api.OK {
		t.Error(l, e)
	}
	if l, e := text.Places(x, string(s)); !slices.Equal(l, want.places) || e != api.OK {
		t.Error(l, e)
	}
}
