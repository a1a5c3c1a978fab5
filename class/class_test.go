package class_test

import (
	"fmt"
	"math"
	"math/bits"
	"slices"
	"strings"
	"testing"

	"virama/api"
	"virama/class"
	"virama/prop"
)

// The document's words, written out again, digit by digit.

// worth is what 2 to the n-th is.
func worth(n int) int64 {
	w := int64(1)
	for range n {
		w *= 2
	}
	return w
}

// isRight is what the document's words say of a set of n names.
func isRight(set int64, n int) bool {
	return n >= 1 && n <= 32 && set >= 0 && set <= worth(n)-1
}

// classesOf are the classes, up to the 32nd, whose binary digit is 1.
func classesOf(set int64) []int {
	var l []int
	if !isRight(set, 32) {
		return nil
	}
	for c := range 32 {
		if set/worth(c)%2 == 1 {
			l = append(l, c)
		}
	}
	return l
}

// setOf is the number of these classes, each of which stands once.
func setOf(l []int) int64 {
	set := int64(0)
	for _, c := range l {
		set += worth(c)
	}
	return set
}

// notIn are those of n classes that are not in a list.
func notIn(l []int, n int) []int {
	var out []int
	for c := range n {
		if !slices.Contains(l, c) {
			out = append(out, c)
		}
	}
	return out
}

// textOf is what the document's words say that a right set's text is.
func textOf(set int64, names []string) string {
	in := classesOf(set)
	out := notIn(in, len(names))
	named := func(l []int) string {
		s := ""
		for i, c := range l {
			if i > 0 {
				s += "\x20"
			}
			s += names[c]
		}
		return s
	}
	switch {
	case len(out) == 0:
		return "."
	case len(in) == 1:
		return named(in)
	case len(in) == 0:
		return "[]"
	case len(in) > len(out):
		return "[^" + named(out) + "]"
	}
	return "[" + named(in) + "]"
}

// orders are all lists of some of n classes, in any order.
func orders(n int) [][]int {
	all := [][]int{nil}
	for i := 0; i < len(all); i++ {
		for _, c := range notIn(all[i], n) {
			all = append(all, append(slices.Clone(all[i]), c))
		}
	}
	return all
}

// textsOf are all texts that the document says are parsed by few names, and which set each is.
func textsOf(names []string) map[string]int64 {
	n := len(names)
	texts := map[string]int64{".": worth(n) - 1}
	for c, name := range names {
		texts[name] = worth(c)
	}
	for _, l := range orders(n) {
		var named []string
		for _, c := range l {
			named = append(named, names[c])
		}
		s := strings.Join(named, " ")
		texts["["+s+"]"] = setOf(l)
		texts["[^"+s+"]"] = setOf(notIn(l, n))
	}
	return texts
}

// many are n names.
func many(n int) []string {
	var l []string
	for i := range n {
		l = append(l, fmt.Sprint("n", i))
	}
	return l
}

// some are sets of n classes: few classes, all but few, and those from one on, as many as there may be.
func some(n int) []int64 {
	l := []int64{0, worth(n) - 1}
	for c := range n {
		l = append(l, worth(c), worth(n)-1-worth(c))
		for d := range c {
			l = append(l, worth(c)+worth(d), worth(n)-1-worth(c)-worth(d))
		}
		for more := range n - c {
			l = append(l, worth(c)*(worth(more+1)-1))
		}
		l = append(l, 0x5555555555%worth(n)/worth(c), 0x9249249249%worth(n)/worth(c))
	}
	return l
}

// wrongs are sets that are not right of n classes, if n is from 1 to 32.
func wrongs(n int) []int64 {
	l := []int64{-1, -2, -worth(31), -worth(32), -worth(33), math.MinInt64, math.MinInt64 + 1, math.MaxInt64}
	for i := n; i < 63; i++ {
		l = append(l, worth(i), worth(i)+1, -worth(i), -worth(i)+1)
		if i > n {
			l = append(l, worth(i)-1)
		}
	}
	return slices.DeleteFunc(l, func(set int64) bool { return set >= 0 && set < worth(n) })
}

// oddNumbers are no classes.
func oddNumbers() []int {
	l := []int{-1, -2, -31, -32, -33, -64, 32, 33, 34, 63, 64, 65, 127, 128, 255, 256}
	return append(l, 1<<31, 1<<32, 1<<32+1, -1<<32, -1<<32+1, math.MaxInt, math.MinInt, math.MinInt+1)
}

// P8.1: sets by hand.
func TestSetsByHand(t *testing.T) {
	for _, x := range []struct {
		set  int64
		n    int
		want bool
	}{
		{0, 1, true}, {1, 1, true}, {2, 1, false}, {-1, 1, false},
		{3, 2, true}, {4, 2, false}, {15, 4, true}, {16, 4, false},
		{0, 0, false}, {0, -1, false}, {0, 33, false}, {1, 33, false}, {0, 64, false}, {0, 65, false},
		{1<<31 - 1, 31, true}, {1 << 31, 31, false}, {1<<32 - 1, 31, false},
		{1<<32 - 1, 32, true}, {1 << 32, 32, false}, {1<<33 - 1, 33, false},
	} {
		if class.Right(x.set, x.n) != x.want {
			t.Error(x.set, x.n, !x.want)
		}
	}
	if set, e := class.Of(3, 0); set != 9 || e != api.OK {
		t.Error(set, e)
	}
	if set, e := class.Of(); set != 0 || e != api.OK {
		t.Error(set, e)
	}
	if l := class.Classes(9); !slices.Equal(l, []int{0, 3}) {
		t.Error(l)
	}
	if class.Not(9, 4) != 6 || class.Not(9, 5) != 22 || class.Not(9, 3) != 0 {
		t.Error("Not")
	}
}

// P8.1: Right, and Not, at the ends of the sets of any number of names.
func TestRight(t *testing.T) {
	numbers := append(oddNumbers(), 0)
	for n := range 70 {
		numbers = append(numbers, n)
	}
	for _, n := range numbers {
		sets := wrongs(1)
		for i := range 63 {
			sets = append(sets, worth(i)-1, worth(i), worth(i)+1)
		}
		for _, set := range sets {
			ok := isRight(set, n)
			if class.Right(set, n) != ok {
				t.Fatalf("Right(%d, %d) = %v", set, n, !ok)
			}
			want := int64(0)
			if ok {
				want = worth(n) - 1 - set
			}
			if not := class.Not(set, n); not != want {
				t.Fatalf("Not(%d, %d) = %d, wanted %d", set, n, not, want)
			}
		}
	}
}

// wantSet asks of a set of any classes what its classes are, one by one.
func wantSet(t *testing.T, set int64) {
	t.Helper()
	want := classesOf(set)
	l := class.Classes(set)
	if !slices.Equal(l, want) || cap(l) != len(l) {
		t.Fatalf("Classes(%d) = %v, wanted %v", set, l, want)
	}
	for c := -40; c < 100; c++ {
		if in := slices.Contains(want, c); class.Has(set, c) != in {
			t.Fatalf("Has(%d, %d) = %v", set, c, !in)
		}
	}
	for _, c := range oddNumbers() {
		if class.Has(set, c) {
			t.Fatalf("Has(%d, %d)", set, c)
		}
	}
}

// P8.1: Has and Classes, of sets that are right and of others.
func TestHasAndClasses(t *testing.T) {
	for set := range int64(1 << 10) {
		wantSet(t, set)
		wantSet(t, worth(32)-1-set)
		wantSet(t, set*worth(20))
	}
	for _, set := range some(32) {
		wantSet(t, set)
	}
	for _, set := range wrongs(32) {
		if len(class.Classes(set)) != 0 {
			t.Error(set)
		}
		wantSet(t, set)
	}
}

// wantOf asks what the set of a list is.
func wantOf(t *testing.T, l ...int) {
	t.Helper()
	var in []int
	want, e := int64(0), api.OK
	for _, c := range l {
		if c < 0 || c > 31 {
			e = api.ErrClass
		}
		if !slices.Contains(in, c) {
			in = append(in, c)
		}
	}
	if e == api.OK {
		want = setOf(in)
	}
	if set, f := class.Of(l...); set != want || f != e {
		t.Fatalf("Of(%v) = %d, %d, wanted %d, %d", l, set, f, want, e)
	}
}

// P8.1: Of any list, in any order, again and again, and with what is no class at each place.
func TestOf(t *testing.T) {
	for a := -2; a < 36; a++ {
		wantOf(t, a)
		for b := -2; b < 36; b++ {
			wantOf(t, a, b)
			wantOf(t, a, b, a)
			wantOf(t, 31, a, 0, b, b)
		}
	}
	for _, l := range orders(5) {
		wantOf(t, l...)
		for i := range l {
			for _, c := range oddNumbers() {
				m := slices.Clone(l)
				m[i] = c
				wantOf(t, m...)
				wantOf(t, slices.Insert(slices.Clone(l), i, c)...)
			}
		}
	}
	var l []int
	for i := range 100000 {
		l = append(l, i*7%32)
	}
	wantOf(t, l...)
	wantOf(t, append(l, 32)...)
	wantOf(t, append(l, -1)...)
}

// wantText asks whether a set has its text, and the text is that set's.
func wantText(t *testing.T, set int64, names []string) {
	t.Helper()
	want := textOf(set, names)
	if s, e := class.Print(set, names); s != want || e != api.OK {
		t.Fatalf("Print(%d, %.60q) = %q, %d, wanted %q", set, names, s, e, want)
	}
	wantParsed(t, want, names, set, api.OK)
}

// wantParsed asks what a text is parsed as.
func wantParsed(t *testing.T, s string, names []string, want int64, e api.Errno) {
	t.Helper()
	if set, f := class.Parse(s, names); set != want || f != e {
		t.Fatalf("Parse(%.200q, %.60q) = %d, %d, wanted %d, %d", s, names, set, f, want, e)
	}
}

// P8.2: texts by hand.
func TestTextsByHand(t *testing.T) {
	for _, x := range []struct {
		names string
		set   int64
		want  string
	}{
		{"A B C D", 5, "[A C]"}, {"A B C D", 15, "."}, {"A B C D", 7, "[^D]"}, {"A B C D", 0, "[]"},
		{"A B C D", 3, "[A B]"}, {"A B C D", 8, "D"}, {"A B C D", 12, "[C D]"}, {"A B C D", 13, "[^B]"},
		// Of one name there are none and all.
		{"A", 0, "[]"}, {"A", 1, "."},
		{"A B", 0, "[]"}, {"A B", 1, "A"}, {"A B", 2, "B"}, {"A B", 3, "."},
		{"A B C", 4, "C"}, {"A B C", 6, "[^A]"}, {"A B C", 5, "[^B]"}, {"A B C", 7, "."},
		// Half of them is not more than half.
		{"A B C D E", 3, "[A B]"}, {"A B C D E", 7, "[^D E]"}, {"A B C D E", 30, "[^A]"},
		{"A B C D E F", 7, "[A B C]"}, {"A B C D E F", 15, "[^E F]"},
		// Rising by their classes, not by their letters.
		{"z a Z", 3, "[^Z]"}, {"z a Z 0 _", 18, "[a _]"}, {"z a Z 0 _", 5, "[z Z]"},
	} {
		names := strings.Split(x.names, " ")
		if s, e := class.Print(x.set, names); s != x.want || e != api.OK {
			t.Errorf("Print(%d, %q) = %q, %d, wanted %q", x.set, names, s, e, x.want)
		}
		wantParsed(t, x.want, names, x.set, api.OK)
	}
}

// P8.2, P8.3: the texts of all sets of few names, and of some of more.
func TestTexts(t *testing.T) {
	for n := 1; n <= 11; n++ {
		for set := range worth(n) {
			wantText(t, set, many(n))
		}
	}
	for n := 12; n <= 32; n++ {
		for _, set := range some(n) {
			wantText(t, set, many(n))
		}
	}
	long := []string{strings.Repeat("a", 40), strings.Repeat("a", 39), "a", strings.Repeat("_", 40)}
	for set := range int64(16) {
		wantText(t, set, long)
		wantText(t, set, []string{"0", "00", "000", "0_"})
		wantText(t, set, []string{"A", "a", "B", "b"})
	}
}

// P8.2: what is not right of as many, and what are no names, which is told first.
func TestWrongNamesAndSets(t *testing.T) {
	for n := 1; n <= 32; n++ {
		for _, set := range wrongs(n) {
			if s, e := class.Print(set, many(n)); s != "" || e != api.ErrClass {
				t.Fatalf("Print(%d, of %d) = %q, %d", set, n, s, e)
			}
		}
	}
	for _, names := range wrongNames() {
		for _, set := range []int64{0, 1, -1, 3, 1 << 31, 1 << 32, 1 << 40, math.MinInt64} {
			if s, e := class.Print(set, names); s != "" || e != api.ErrArg {
				t.Fatalf("Print(%d, %.60q) = %q, %d", set, names, s, e)
			}
		}
		for _, s := range []string{"", ".", "A", "[", "[]", "[A]", "[^]", "[^A]", "[A A]", "odd"} {
			wantParsed(t, s, names, 0, api.ErrArg)
		}
	}
}

// wrongNames are lists that are no names.
func wrongNames() [][]string {
	l := [][]string{
		nil, {}, {""}, {"A", ""}, {"A", "A"}, {"A", "B", "A"}, {"A B"}, {"."}, {"A", "[]"}, {"^"}, {"A", "é"},
		{"A", "B]"}, {"A*"}, {strings.Repeat("A", 41)}, {"A", "\xff"}, many(33), many(64), many(100), append(many(32), "n0"),
	}
	for _, names := range l {
		if prop.Names(names) {
			panic(names)
		}
	}
	return l
}

// P8.2: all texts of up to six of the letters that sets' texts have, and two others.
func TestAllShortTexts(t *testing.T) {
	for _, names := range [][]string{{"A"}, {"A", "B"}, {"B", "A"}, {"A", "AB"}, {"A", "AA", "B"}} {
		texts := textsOf(names)
		var all func(s string, more int)
		all = func(s string, more int) {
			want, ok := texts[s]
			if ok {
				wantParsed(t, s, names, want, api.OK)
			} else {
				wantParsed(t, s, names, 0, api.ErrClass)
			}
			for i := 0; more > 0 && i < len("[]^ .AB"); i++ {
				all(s+"[]^ .AB"[i:i+1], more-1)
			}
		}
		all("", 6)
	}
}

// P8.2: names in any order, and each such text that is not long with a byte changed, put between, doubled or left out.
func TestTextsInAnyOrder(t *testing.T) {
	for _, names := range [][]string{{"A", "B", "C", "D", "E"}, {"a", "ab", "abc", "b", "bc"}, {"Other", "RI"}} {
		texts := textsOf(names)
		for s, set := range texts {
			wantParsed(t, s, names, set, api.OK)
			if len(names) > 2 && len(s) > 7 {
				continue
			}
			for i := range len(s) + 1 {
				for b := range 256 {
					x := string([]byte{byte(b)})
					wantOneOf(t, s[:i]+x+s[i:], names, texts)
					if i < len(s) {
						wantOneOf(t, s[:i]+x+s[i+1:], names, texts)
						wantOneOf(t, s[:i]+s[i+1:], names, texts)
					}
				}
			}
		}
	}
}

// wantOneOf asks for the set of a text that is one of these, and else for ErrClass.
func wantOneOf(t *testing.T, s string, names []string, texts map[string]int64) {
	t.Helper()
	set, ok := texts[s]
	e := api.OK
	if !ok {
		e = api.ErrClass
	}
	wantParsed(t, s, names, set, e)
}

// wantList asks for the set of some texts within brackets, which are names, each once, or wrong.
func wantList(t *testing.T, l []string, names []string) {
	t.Helper()
	var in []int
	e := api.OK
	for i, name := range l {
		c := slices.Index(names, name)
		if c < 0 || slices.Index(l, name) != i {
			e = api.ErrClass
		}
		in = append(in, max(c, 0))
	}
	set, not := int64(0), int64(0)
	if e == api.OK {
		set, not = setOf(in), setOf(notIn(in, len(names)))
	}
	wantParsed(t, "["+strings.Join(l, " ")+"]", names, set, e)
	wantParsed(t, "[^"+strings.Join(l, " ")+"]", names, not, e)
}

// P8.2: texts of as many names as there may be, backwards, and with one name again, or wrong, at each place.
func TestLongTexts(t *testing.T) {
	for n := 1; n <= 32; n++ {
		names := many(n)
		back := slices.Clone(names)
		slices.Reverse(back)
		for i := range n + 1 {
			wantList(t, back[:i], names)
			for j := range i {
				for _, x := range []string{names[0], names[n/2], names[n-1], "n", "N0", "n32", ".", "[]", " ", "n0 "} {
					l := slices.Clone(back[:i])
					l[j] = x
					wantList(t, l, names)
				}
			}
		}
	}
	long := strings.Repeat("A ", 1<<20)
	for _, s := range []string{long, "[" + long + "]", "[^" + long + "A]", strings.Repeat("[", 1<<20), strings.Repeat("^", 1<<20), strings.Repeat(" ", 1<<20)} {
		wantParsed(t, s, []string{"A", "B"}, 0, api.ErrClass)
	}
}

// P8.3: classes' set has these classes; what is not not in it is in it.
func TestWhatFollows(t *testing.T) {
	for n := 1; n <= 32; n++ {
		for _, set := range some(n) {
			again, e := class.Of(class.Classes(set)...)
			if again != set || e != api.OK {
				t.Fatal(set, again, e)
			}
			not := class.Not(set, n)
			if class.Not(not, n) != set || !class.Right(not, n) || not&set != 0 {
				t.Fatal(set, n, not)
			}
			if bits.OnesCount64(uint64(not))+bits.OnesCount64(uint64(set)) != n {
				t.Fatal(set, n, not)
			}
			for c := range 32 {
				if class.Has(not, c) != (c < n && !class.Has(set, c)) {
					t.Fatal(set, n, c)
				}
			}
		}
	}
}

// R3: what is handed in stays, spare room too, and what is answered is new memory.
func TestMemory(t *testing.T) {
	room := []string{"A", "B", "C", "D", "spare", "room"}
	names := room[:4]
	for _, s := range []string{"[A C]", "[^D]", ".", "A", "[A A]", "odd"} {
		class.Parse(s, names)
	}
	for set := range int64(20) {
		class.Print(set, names)
	}
	if !slices.Equal(room, []string{"A", "B", "C", "D", "spare", "room"}) {
		t.Error(room)
	}
	numbers := []int{3, 1, 3, 32, 5, 7}
	class.Of(numbers[:3]...)
	class.Of(numbers[:4]...)
	if !slices.Equal(numbers, []int{3, 1, 3, 32, 5, 7}) {
		t.Error(numbers)
	}
	a := class.Classes(7)
	b := class.Classes(7)
	a[0] = 9
	_ = append(a, 9)
	if !slices.Equal(b, []int{0, 1, 2}) || !slices.Equal(class.Classes(7), []int{0, 1, 2}) {
		t.Error(b)
	}
}

// R4: a call's answer hangs on its arguments alone, whatever was asked ahead of it.
func TestNothingIsKept(t *testing.T) {
	for range 2 {
		wantParsed(t, "[A]", []string{"A", "B"}, 1, api.OK)
		wantParsed(t, "[A]", []string{"B", "A"}, 2, api.OK)
		wantParsed(t, "[A]", []string{"B"}, 0, api.ErrClass)
		wantParsed(t, "[A A]", []string{"A", "B"}, 0, api.ErrClass)
		wantText(t, 6, []string{"A", "B", "C"})
		wantText(t, 6, []string{"A", "B", "C", "D"})
	}
}
