package pattern_test

import (
	"fmt"
	"math"
	"slices"
	"strings"
	"testing"

	"virama/api"
	"virama/class"
	"virama/pattern"
	"virama/prop"
)

// marks are what stands behind a set's text, by how often an item stands.
var marks = []string{"", "*", "**"}

// textOf is what the document's words say that a right pattern's text is.
func textOf(p api.Pattern, names []string) string {
	s := ""
	if p.Start {
		s = "^"
	}
	for i, x := range p.Items {
		if i > 0 || p.Start {
			s += "\x20"
		}
		set, e := class.Print(x.Set, names)
		if e != api.OK {
			panic(x)
		}
		s += set + marks[x.How]
	}
	return s
}

// wantText asks whether a pattern has its text, and the text is that pattern's.
func wantText(t *testing.T, p api.Pattern, names []string) {
	t.Helper()
	want := textOf(p, names)
	if s, e := pattern.Print(p, names); s != want || e != api.OK {
		t.Fatalf("Print(%v, %.60q) = %q, %d, wanted %q", p, names, s, e, want)
	}
	wantParsed(t, want, names, p, api.OK)
}

// wantParsed asks what a text is parsed as.
func wantParsed(t *testing.T, s string, names []string, want api.Pattern, e api.Errno) {
	t.Helper()
	p, f := pattern.Parse(s, names)
	if p.Start != want.Start || !slices.Equal(p.Items, want.Items) || f != e {
		t.Fatalf("Parse(%.200q, %.60q) = %v, %d, wanted %v, %d", s, names, p, f, want, e)
	}
}

// many are n names.
func many(n int) []string {
	var l []string
	for i := range n {
		l = append(l, fmt.Sprint("n", i))
	}
	return l
}

// wrongNames are lists that are no names.
func wrongNames() [][]string {
	l := [][]string{
		nil, {}, {""}, {"A", ""}, {"A", "A"}, {"A", "B", "A"}, {"A B"}, {"."}, {"^"}, {"A", "B*"}, {"A", "[]"}, {"A", "é"},
		{strings.Repeat("A", 41)}, {"A", "\xff"}, many(33), many(64), append(many(32), "n0"),
	}
	for _, names := range l {
		if prop.Names(names) {
			panic(names)
		}
	}
	return l
}

// P9.2: texts by hand.
func TestTextsByHand(t *testing.T) {
	for _, x := range []struct {
		text string
		want api.Pattern
	}{
		{"", api.Pattern{}},
		{"^", api.Pattern{Start: true}},
		{"A", api.Pattern{Items: []api.Item{{Set: 1}}}},
		{"^ A", api.Pattern{Start: true, Items: []api.Item{{Set: 1}}}},
		{"A B*", api.Pattern{Items: []api.Item{{Set: 1}, {Set: 2, How: 1}}}},
		{"^ A** A", api.Pattern{Start: true, Items: []api.Item{{Set: 1, How: 2}, {Set: 1}}}},
		{"[A B] .* C", api.Pattern{Items: []api.Item{{Set: 3}, {Set: 15, How: 1}, {Set: 4}}}},
		{"[A B]** []", api.Pattern{Items: []api.Item{{Set: 3, How: 2}, {}}}},
		{"[^D]* []**", api.Pattern{Items: []api.Item{{Set: 7, How: 1}, {How: 2}}}},
	} {
		names := []string{"A", "B", "C", "D"}
		if s, e := pattern.Print(x.want, names); s != x.text || e != api.OK {
			t.Errorf("Print(%v) = %q, %d", x.want, s, e)
		}
		wantParsed(t, x.text, names, x.want, api.OK)
	}
	// Sets are read as class.Parse reads them, in any order of their names.
	for s, want := range map[string]api.Pattern{
		"[B A]** C*":      {Items: []api.Item{{Set: 3, How: 2}, {Set: 4, How: 1}}},
		"^ [^] [^D C A]*": {Start: true, Items: []api.Item{{Set: 15}, {Set: 2, How: 1}}},
		"[A B C D] [D]**": {Items: []api.Item{{Set: 15}, {Set: 8, How: 2}}},
	} {
		wantParsed(t, s, []string{"A", "B", "C", "D"}, want, api.OK)
	}
}

// P9.2, P9.3: all patterns of up to three items of few names.
func TestTexts(t *testing.T) {
	for n := 1; n <= 3; n++ {
		var sets []int64
		for set := range int64(1) << n {
			sets = append(sets, set)
		}
		for _, items := range rowsOf(min(3, 5-n), itemsOf(sets...)...) {
			for _, p := range both(items...) {
				wantText(t, p, many(n))
			}
		}
	}
	for _, names := range [][]string{{"a", "A", "aa"}, {strings.Repeat("a", 40), "a", strings.Repeat("_", 40)}, {"0", "00", "0_"}} {
		for _, items := range rowsOf(2, itemsOf(0, 1, 2, 4, 5, 6, 7)...) {
			wantText(t, api.Pattern{Items: items}, names)
		}
	}
}

// P9.2: patterns of as many items and names as there may be, and what is not right of as many.
func TestMostItemsAndNames(t *testing.T) {
	for n := 1; n <= 32; n++ {
		names := many(n)
		whole := int64(1)<<n - 1
		for k := range 15 {
			items := make([]api.Item, k)
			for i, r := range mixed(n*15+k, k, 1<<20) {
				items[i] = api.Item{Set: (0x5555555555 >> i * int64(r)) & whole, How: r % 3}
			}
			for _, p := range both(items...) {
				if k <= 10 {
					wantText(t, p, names)
				} else {
					wantParsed(t, textOf(p, names), names, api.Pattern{}, api.ErrPattern)
					wantUnprinted(t, p, names, api.ErrPattern)
				}
			}
			for i := range min(k, 10) {
				wrong := slices.Clone(items[:min(k, 10)])
				for _, set := range append(wrongSets(), whole+1, whole+2, 2*whole+1) {
					wrong[i].Set = set
					wantUnprinted(t, api.Pattern{Items: wrong}, names, api.ErrPattern)
				}
				wrong[i].Set = 0
				for _, how := range oddHows() {
					wrong[i].How = how
					wantUnprinted(t, api.Pattern{Items: wrong}, names, api.ErrPattern)
				}
			}
		}
	}
}

// wantUnprinted asks that a pattern has no text.
func wantUnprinted(t *testing.T, p api.Pattern, names []string, e api.Errno) {
	t.Helper()
	if s, f := pattern.Print(p, names); s != "" || f != e {
		t.Fatalf("Print(%v, %.60q) = %q, %d, wanted %d", p, names, s, f, e)
	}
}

// P9.2: what are no names is told first.
func TestWrongNames(t *testing.T) {
	for _, names := range wrongNames() {
		for _, items := range rowsOf(2, append(itemsOf(0, 1), api.Item{Set: -1}, api.Item{Set: 1 << 40}, api.Item{How: 3})...) {
			for _, p := range both(items...) {
				wantUnprinted(t, p, names, api.ErrArg)
			}
		}
		wantUnprinted(t, api.Pattern{Items: make([]api.Item, 11)}, names, api.ErrArg)
		for _, s := range []string{"", "^", ".", "A", "A*", "A B", "[]", "odd", " ", "*", "^ ^", "\xff", ". . . . . . . . . . ."} {
			wantParsed(t, s, names, api.Pattern{}, api.ErrArg)
		}
	}
}

// setsTexts are all texts that class.Parse reads by two names, and which set each is.
func setsTexts() map[string]int64 {
	return map[string]int64{
		".": 3, "A": 1, "B": 2, "[]": 0, "[^]": 3, "[A]": 1, "[B]": 2, "[A B]": 3, "[B A]": 3,
		"[^A]": 2, "[^B]": 1, "[^A B]": 0, "[^B A]": 0,
	}
}

// rightTexts are all texts of up to n bytes that the document says are parsed by the names A and B.
func rightTexts(n int) map[string]api.Pattern {
	all := map[string]api.Pattern{"": {}, "^": {Start: true}}
	texts := []string{"", "^"}
	for i := 0; i < len(texts); i++ {
		ahead := texts[i]
		if ahead != "" {
			ahead += " "
		}
		for set, number := range setsTexts() {
			for how, mark := range marks {
				s := ahead + set + mark
				if len(s) > n {
					continue
				}
				p := all[texts[i]]
				all[s] = api.Pattern{Start: p.Start, Items: append(slices.Clone(p.Items), api.Item{Set: number, How: how})}
				texts = append(texts, s)
			}
		}
	}
	return all
}

// wantOneOf asks for the pattern of a text that is one of these, and else for ErrPattern.
func wantOneOf(t *testing.T, s string, texts map[string]api.Pattern) {
	t.Helper()
	p, ok := texts[s]
	e := api.OK
	if !ok {
		e = api.ErrPattern
	}
	wantParsed(t, s, []string{"A", "B"}, p, e)
}

// P9.2: all texts of up to six of the letters that patterns' texts have.
func TestAllShortTexts(t *testing.T) {
	texts := rightTexts(6)
	letters := "[]^ .*AB"
	var all func(s string, more int)
	all = func(s string, more int) {
		wantOneOf(t, s, texts)
		for i := 0; more > 0 && i < len(letters); i++ {
			all(s+letters[i:i+1], more-1)
		}
	}
	all("", 6)
}

// P9.2: each such text of up to seven bytes that is right, with a byte changed, put between, doubled or left out.
func TestChangedTexts(t *testing.T) {
	texts := rightTexts(8)
	for s := range texts {
		if len(s) > 7 {
			continue
		}
		wantOneOf(t, s, texts)
		bytes := "[]^ .*ABC\n\t\x00\x80\xff#+/"
		if len(s) <= 3 {
			bytes = everyByte()
		}
		for i := range len(s) + 1 {
			for j := range len(bytes) {
				wantOneOf(t, s[:i]+bytes[j:j+1]+s[i:], texts)
				if i < len(s) {
					wantOneOf(t, s[:i]+bytes[j:j+1]+s[i+1:], texts)
					wantOneOf(t, s[:i]+s[i+1:], texts)
				}
			}
		}
	}
}

// everyByte is a text that has each byte.
func everyByte() string {
	b := make([]byte, 256)
	for i := range b {
		b[i] = byte(i)
	}
	return string(b)
}

// P9.2: parts of many kinds that are wrong, at each place of a pattern, and start at another place than the first.
func TestWrongParts(t *testing.T) {
	right := []string{"A", "[A B]*", "[]**", ".", "[^A B]", "B*", "[B A]**", "A**", ".*", "[^]"}
	names := []string{"A", "B"}
	for _, part := range []string{"", "^", "C", "*", "**", "A***", "A****", "A* *", "^A", "A^", "[A", "A]", "[A  B]", "[ A]", "[A ]", "[A]A", "A[A]", "[[A]]", "[A]]", "[A*]", "[A*", "[^A", "[A A]", "[A B]C", "A B[", "a", "é", "A\xff", "A\n", "\tA", "A\x00", "n0", "[C]"} {
		for k := range len(right) + 1 {
			for at := range k + 1 {
				parts := slices.Insert(slices.Clone(right[:k]), at, part)
				s := strings.Join(parts, " ")
				// These are no parts where they stand first, or alone.
				if part == "^" && at == 0 || part == "" && k == 0 {
					continue
				}
				wantParsed(t, s, names, api.Pattern{}, api.ErrPattern)
				wantParsed(t, "^ "+s, names, api.Pattern{}, api.ErrPattern)
			}
		}
	}
	wantParsed(t, "^ ", names, api.Pattern{}, api.ErrPattern)
}

// P9.2: ten items, with and without start, and more.
func TestManyParts(t *testing.T) {
	names := []string{"A", "B"}
	for k := range 40 {
		items := make([]api.Item, k)
		parts := make([]string, k)
		for i := range parts {
			items[i], parts[i] = api.Item{Set: int64(i % 4), How: i % 3}, []string{"[]", "A", "B", "[A B]"}[i%4]+marks[i%3]
		}
		s := strings.Join(parts, " ")
		started := strings.Join(append([]string{"^"}, parts...), " ")
		if k <= 10 {
			wantParsed(t, s, names, api.Pattern{Items: items}, api.OK)
			wantParsed(t, started, names, api.Pattern{Start: true, Items: items}, api.OK)
		} else {
			wantParsed(t, s, names, api.Pattern{}, api.ErrPattern)
			wantParsed(t, started, names, api.Pattern{}, api.ErrPattern)
		}
	}
}

// R1: texts that are long.
func TestLongTexts(t *testing.T) {
	n := 1 << 20
	for _, x := range []string{" ", "*", "**", "^", "^ ", "A", "A ", "A* ", "[", "]", "[]", "[] ", "[A", ".", ". ", "\xff", "é", "\n"} {
		s := strings.Repeat(x, n)
		for _, y := range []string{s, "A " + s, "[" + s + "]", "[A " + s + "]*", s + "A", "^ " + s} {
			wantParsed(t, y, []string{"A", "B"}, api.Pattern{}, api.ErrPattern)
		}
	}
}

// R3: what is handed in stays, spare room too, and what is answered is new memory.
func TestMemory(t *testing.T) {
	room := []string{"A", "B", "spare", "room"}
	names := room[:2]
	a, e := pattern.Parse("A B*", names)
	b, f := pattern.Parse("A B*", names)
	if e != api.OK || f != api.OK {
		t.Fatal(e, f)
	}
	a.Items[0].Set = 3
	_ = append(a.Items, api.Item{Set: 3})
	a.Items = a.Items[:cap(a.Items)]
	a.Items[1] = api.Item{}
	wantText(t, b, names)
	wantParsed(t, "A B*", names, api.Pattern{Items: []api.Item{{Set: 1}, {Set: 2, How: 1}}}, api.OK)
	pattern.Print(api.Pattern{Items: []api.Item{{Set: math.MaxInt64}}}, names)
	pattern.Parse("[B A] odd", names)
	if !slices.Equal(room, []string{"A", "B", "spare", "room"}) {
		t.Error(room)
	}
}

// R4: a call's answer hangs on its arguments alone, whatever was asked ahead of it.
func TestNothingIsKept(t *testing.T) {
	for range 2 {
		wantParsed(t, "A", []string{"A", "B"}, api.Pattern{Items: []api.Item{{Set: 1}}}, api.OK)
		wantParsed(t, "A", []string{"B", "A"}, api.Pattern{Items: []api.Item{{Set: 2}}}, api.OK)
		wantParsed(t, "A", []string{"B"}, api.Pattern{}, api.ErrPattern)
		wantText(t, api.Pattern{Items: []api.Item{{Set: 6}}}, []string{"A", "B", "C"})
		wantText(t, api.Pattern{Items: []api.Item{{Set: 6}}}, []string{"A", "B", "C", "D"})
	}
}
