package fold_test

import (
	"maps"
	"math"
	"regexp"
	"slices"
	"strconv"
	"strings"
	"testing"
	"unicode/utf8"

	"virama/api"
	"virama/field"
	"virama/fold"
	"virama/prop"
	"virama/trie"
)

// The document's words, written out again, on top of Go's own runes and regular expressions.

// isScalar tells whether a number is a scalar.
func isScalar(r int) bool {
	return r >= 0 && r <= utf8.MaxRune && utf8.ValidRune(rune(r))
}

var (
	oneCode   = regexp.MustCompile(`^[0-9a-fA-F]{4,6}$`)
	manyCodes = regexp.MustCompile(`^([0-9a-fA-F]{4,6}( +[0-9a-fA-F]{4,6})*)?$`)
)

// numbersIn are those of codes, as they are parted by blanks.
func numbersIn(s string) []int {
	var l []int
	for _, c := range strings.Fields(s) {
		n, _ := strconv.ParseInt(c, 16, 64)
		l = append(l, int(n))
	}
	return l
}

// areAll tells whether at most three numbers are scalars.
func areAll(l []int) bool {
	for _, r := range l {
		if !isScalar(r) {
			return false
		}
	}
	return len(l) <= 3
}

// words are what files say.
type words struct {
	lower, title     map[int][]int
	cased, ignorable api.Trie
}

// fault is what is wrong, in which file, in which line.
type fault struct {
	file, line int
	e          api.Errno
}

// dataWords lays what a record of Data says.
func (w words) dataWords(x api.Record) api.Errno {
	if len(x.Fields) < 14 {
		return api.ErrField
	}
	for _, s := range x.Fields[11:14] {
		if s != "" && (!oneCode.MatchString(s) || !areAll(numbersIn(s))) {
			return api.ErrHex
		}
	}
	if s := x.Fields[12]; s != "" {
		w.lower[x.From] = numbersIn(s)
	}
	if s := x.Fields[13]; s != "" {
		w.title[x.From] = numbersIn(s)
	} else if s := x.Fields[11]; s != "" {
		w.title[x.From] = numbersIn(s)
	}
	return api.OK
}

// specialWords lays what a record of Special says.
func (w words) specialWords(x api.Record) api.Errno {
	if len(x.Fields) < 3 {
		return api.ErrField
	}
	for _, s := range x.Fields[:2] {
		if !manyCodes.MatchString(s) || !areAll(numbersIn(s)) {
			return api.ErrHex
		}
	}
	w.lower[x.From] = numbersIn(x.Fields[0])
	w.title[x.From] = numbersIn(x.Fields[1])
	return api.OK
}

// recordsWords lays what all records of Data (1) say, or of Special (2).
func (w words) recordsWords(number int, file string) fault {
	l, line, e := field.Parse(file)
	if e != api.OK {
		return fault{number, line, e}
	}
	var had []int
	for _, x := range l {
		if x.From != x.To || !isScalar(x.From) {
			continue
		}
		if number == 2 && len(x.Fields) > 3 && x.Fields[3] != "" {
			continue
		}
		if number == 1 {
			e = w.dataWords(x)
		} else {
			e = w.specialWords(x)
		}
		if e == api.OK && slices.Contains(had, x.From) {
			e = api.ErrLap
		}
		if e != api.OK {
			return fault{number, x.Line, e}
		}
		had = append(had, x.From)
	}
	return fault{}
}

// known are the tries of files that were met already, as a test meets some of them often.
type known map[[2]string]api.Trie

// kind is the trie of a name.
func (k known) kind(core, name string) (api.Trie, fault) {
	if t, met := k[[2]string{core, name}]; met {
		return t, fault{}
	}
	l, line, e := prop.Read(core, []string{"No", name}, 0, true)
	if e != api.OK {
		return api.Trie{}, fault{3, line, e}
	}
	t, _ := trie.Build(l)
	k[[2]string{core, name}] = t
	return t, fault{}
}

// wordsOf are what three files say, or what is wrong with the first one that is.
func (k known) wordsOf(data, special, core string) (words, fault) {
	w := words{lower: map[int][]int{}, title: map[int][]int{}}
	if f := w.recordsWords(1, data); f.e != api.OK {
		return words{}, f
	}
	if f := w.recordsWords(2, special); f.e != api.OK {
		return words{}, f
	}
	var f fault
	if w.cased, f = k.kind(core, "Cased"); f.e != api.OK {
		return words{}, f
	}
	if w.ignorable, f = k.kind(core, "Case_Ignorable"); f.e != api.OK {
		return words{}, f
	}
	return w, fault{}
}

// rising are a map's mappings.
func rising(m map[int][]int) []api.Mapping {
	var l []api.Mapping
	for _, r := range slices.Sorted(maps.Keys(m)) {
		l = append(l, api.Mapping{From: r, To: m[r]})
	}
	return l
}

// cases are the words'.
func (w words) cases() api.Cases {
	return api.Cases{Lower: rising(w.lower), Title: rising(w.title), Cased: w.cased, Ignorable: w.ignorable}
}

// becomes is what a scalar becomes.
func becomes(l []api.Mapping, r int) []int {
	for _, x := range l {
		if x.From == r {
			return x.To
		}
	}
	return []int{r}
}

// saysOther tells whether a trie says another value than 0.
func saysOther(t api.Trie, r int) bool {
	return t.Blocks[t.Index[r/256]][r%256] != 0
}

// sameMappings tells whether mappings are the same.
func sameMappings(a, b []api.Mapping) bool {
	return slices.EqualFunc(a, b, func(x, y api.Mapping) bool {
		return x.From == y.From && slices.Equal(x.To, y.To)
	})
}

// sameCases tells whether cases are the same, right or not.
func sameCases(a, b api.Cases) bool {
	return sameMappings(a.Lower, b.Lower) && sameMappings(a.Title, b.Title) && trie.Same(a.Cased, b.Cased) && trie.Same(a.Ignorable, b.Ignorable)
}

// isNothing tells whether cases have nothing.
func isNothing(c api.Cases) bool {
	return len(c.Lower)+len(c.Title)+len(c.Cased.Index)+len(c.Cased.Blocks)+len(c.Ignorable.Index)+len(c.Ignorable.Blocks) == 0
}

// oddNumbers are no scalars, and no numbers that are near to one.
func oddNumbers() []int {
	return []int{math.MinInt, math.MinInt + 1, -1 << 40, -1 << 32, 0x41 - 1<<32, -1 << 31, -0x41, -256, -2, -1, 0xd800, 0xd801, 0xdbff, 0xdc00, 0xdffe, 0xdfff, 0x110000, 0x110001, 0x110041, 1 << 31, 1 << 32, 1<<32 + 0x41, 1<<40 + 0x41, math.MaxInt - 1, math.MaxInt}
}

// wantMade asks that files make what they say, and tells what it is.
func (k known) wantMade(t *testing.T, data, special, core string) (api.Cases, fault) {
	t.Helper()
	w, f := k.wordsOf(data, special, core)
	c, file, line, e := fold.Make(data, special, core)
	if f != (fault{file, line, e}) {
		t.Fatalf("Make(%q, %q, %q): file %d, line %d, error %d, wanted %v", data, special, core, file, line, e, f)
	}
	if e != api.OK {
		if !isNothing(c) {
			t.Fatalf("Make(%q, %q, %q): %v beside an error", data, special, core, c)
		}
		return c, f
	}
	want := w.cases()
	if !sameCases(c, want) {
		t.Fatalf("Make(%q, %q, %q): %x, %x, wanted %x, %x", data, special, core, c.Lower, c.Title, want.Lower, want.Title)
	}
	if !fold.Right(c) || !fold.Maps(c.Lower) || !fold.Maps(c.Title) || !fold.Same(c, want) {
		t.Fatalf("Make(%q, %q, %q): cases that are not right, or not the same", data, special, core)
	}
	return c, f
}

// wantScalar asks for all that right cases tell of a scalar.
func wantScalar(t *testing.T, c api.Cases, r int) {
	t.Helper()
	small, e := fold.Lower(c, r)
	if !slices.Equal(small, becomes(c.Lower, r)) || e != api.OK {
		t.Fatalf("Lower of %x: %x, %d, wanted %x", r, small, e, becomes(c.Lower, r))
	}
	big, e := fold.Title(c, r)
	if !slices.Equal(big, becomes(c.Title, r)) || e != api.OK {
		t.Fatalf("Title of %x: %x, %d, wanted %x", r, big, e, becomes(c.Title, r))
	}
	cased, ignorable, e := fold.Kind(c, r)
	if cased != saysOther(c.Cased, r) || ignorable != saysOther(c.Ignorable, r) || e != api.OK {
		t.Fatalf("Kind of %x: %v, %v, %d", r, cased, ignorable, e)
	}
}

// wantNone asks that of a number nothing is told but an error.
func wantNone(t *testing.T, c api.Cases, r int, want api.Errno) {
	t.Helper()
	small, e := fold.Lower(c, r)
	big, f := fold.Title(c, r)
	cased, ignorable, g := fold.Kind(c, r)
	if len(small) != 0 || e != want || len(big) != 0 || f != want || cased || ignorable || g != want {
		t.Fatalf("of %x: %x, %d, %x, %d, %v, %v, %d, wanted %d", r, small, e, big, f, cased, ignorable, g, want)
	}
}

// wantWrong asks that cases are not right, and that this is told ahead of all else.
func wantWrong(t *testing.T, c api.Cases) {
	t.Helper()
	if fold.Right(c) {
		t.Fatalf("right: %x, %x", c.Lower, c.Title)
	}
	for _, r := range append(oddNumbers(), 0, 0x41, 0x61, 0xdf, 0x10ffff) {
		wantNone(t, c, r, api.ErrCase)
	}
}

// mixed are k numbers below n, mixed by a seed.
func mixed(seed, k, n int) []int {
	l := make([]int, k)
	x := uint32(seed)*2654435761 + 12345
	for i := range l {
		x = x*1664525 + 1013904223
		l[i] = int(x>>8) % n
	}
	return l
}

// code is a number in six digits.
func code(r int) string {
	s := strconv.FormatInt(int64(r), 16)
	return strings.Repeat("0", 6-len(s)) + s
}

// dataLine is one of Data, with a big, a small and a title scalar. Its other fields are codes, too, each another one.
func dataLine(r, big, small, title string) string {
	return r + ";0F00;0F01;0F02;0F03;0F04;0F05;0F06;0F07;0F08;0F09;0F0A;" + big + ";" + small + ";" + title + ";0F0E;0F0F\n"
}

// cloned are cases in new memory.
func cloned(c api.Cases) api.Cases {
	return api.Cases{Lower: clonedMappings(c.Lower), Title: clonedMappings(c.Title), Cased: clonedTrie(c.Cased), Ignorable: clonedTrie(c.Ignorable)}
}

func clonedMappings(l []api.Mapping) []api.Mapping {
	var m []api.Mapping
	for _, x := range l {
		m = append(m, api.Mapping{From: x.From, To: slices.Clone(x.To)})
	}
	return m
}

func clonedTrie(x api.Trie) api.Trie {
	c := api.Trie{Index: slices.Clone(x.Index)}
	for _, b := range x.Blocks {
		c.Blocks = append(c.Blocks, slices.Clone(b))
	}
	return c
}
