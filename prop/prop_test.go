package prop_test

import (
	"fmt"
	"math"
	"regexp"
	"slices"
	"strings"
	"testing"

	"virama/api"
	"virama/field"
	"virama/prop"
	"virama/span"
)

// rg is a range.
func rg(from, to, value int) api.Range {
	return api.Range{From: from, To: to, Value: value}
}

// The document's words, written out again.

var nameForm = regexp.MustCompile(`^[a-zA-Z0-9_]{1,40}$`)

func areNames(l []string) bool {
	for i, s := range l {
		if !nameForm.MatchString(s) || slices.Index(l, s) != i {
			return false
		}
	}
	return len(l) >= 1 && len(l) <= 32
}

// tightOf is the tight map that says of each number what said does.
func tightOf(said map[int]int) []api.Range {
	var l []api.Range
	var numbers []int
	for r := range said {
		numbers = append(numbers, r)
	}
	slices.Sort(numbers)
	for i, r := range numbers {
		if i > 0 && numbers[i-1] == r-1 && said[r-1] == said[r] {
			l[len(l)-1].To = r
		} else {
			l = append(l, rg(r, r, said[r]))
		}
	}
	return l
}

// readOf is what the document's words say that Read answers, number by number.
func readOf(file string, names []string, k int, loose bool) ([]api.Range, int, api.Errno) {
	if !areNames(names) || k < 0 || k > 19 {
		return nil, 0, api.ErrArg
	}
	l, line, e := field.Parse(file)
	if e != api.OK {
		return nil, line, e
	}
	said := map[int]int{}
	for _, x := range l {
		v := -1
		if k < len(x.Fields) {
			v = slices.Index(names, x.Fields[k])
		}
		if v < 0 && !loose {
			return nil, x.Line, api.ErrName
		}
		for r := x.From; v >= 0 && r <= x.To; r++ {
			if _, lap := said[r]; lap {
				return nil, x.Line, api.ErrLap
			}
			said[r] = v
		}
	}
	return tightOf(said), 0, api.OK
}

// ofOf is what the document's words say that Of answers.
func ofOf(file string, names []string, r int) (string, api.Errno) {
	l, _, e := readOf(file, names, 0, false)
	if e != api.OK {
		return "", e
	}
	for _, x := range l {
		if x.From <= r && r <= x.To {
			return names[x.Value], api.OK
		}
	}
	return names[0], api.OK
}

// writeOf is what the document's words say that Write answers.
func writeOf(l []api.Range, names []string) (string, api.Errno) {
	s := ""
	if !areNames(names) {
		return "", api.ErrArg
	}
	if !span.Right(l) {
		return "", api.ErrRange
	}
	for _, x := range l {
		if x.Value >= len(names) {
			return "", api.ErrRange
		}
		s += field.Print([]api.Record{{From: x.From, To: x.To, Fields: []string{names[x.Value]}}})
	}
	return s, api.OK
}

func wantNames(t *testing.T, l []string) {
	t.Helper()
	ok := areNames(l)
	if prop.Names(l) != ok {
		t.Fatalf("Names(%.60q) = %v", l, !ok)
	}
	if ok {
		return
	}
	wantRead(t, "0041;a\nx", l, 0, false, nil, 0, api.ErrArg)
	wantRead(t, "", l, 0, true, nil, 0, api.ErrArg)
	if s, e := prop.Write([]api.Range{rg(2, 1, 99)}, l); s != "" || e != api.ErrArg {
		t.Fatalf("Write by %.60q = %q, %d", l, s, e)
	}
	if s, e := prop.Of("", l, 0x41); s != "" || e != api.ErrArg {
		t.Fatalf("Of by %.60q = %q, %d", l, s, e)
	}
}

func wantRead(t *testing.T, file string, names []string, k int, loose bool, want []api.Range, line int, e api.Errno) {
	t.Helper()
	l, n, f := prop.Read(file, names, k, loose)
	if !slices.Equal(l, want) || n != line || f != e {
		t.Fatalf("Read(%.200q, %.60q, %d, %v) = %.12v, %d, %d, wanted %.12v, %d, %d", file, names, k, loose, l, n, f, want, line, e)
	}
}

// wantWords asks whether Read and Of answer what the document's words say.
func wantWords(t *testing.T, file string, names []string, k int, loose bool) {
	t.Helper()
	l, n, e := readOf(file, names, k, loose)
	wantRead(t, file, names, k, loose, l, n, e)
	for _, r := range []int{-1, 0, 0x3f, 0x40, 0x41, 0x42, 0x43, 0x44, 0x45, 0x46} {
		s, f := ofOf(file, names, r)
		if x, g := prop.Of(file, names, r); x != s || f != g {
			t.Fatalf("Of(%q, %q, %x) = %q, %d, wanted %q, %d", file, names, r, x, g, s, f)
		}
	}
}

// many are n names.
func many(n int) []string {
	var l []string
	for i := range n {
		l = append(l, fmt.Sprint("n", i))
	}
	return l
}

// P5.1: names of one letter, and of one among others, by each byte and by many runes.
func TestLettersOfNames(t *testing.T) {
	for b := range 256 {
		s := string([]byte{byte(b)})
		wantNames(t, []string{s})
		wantNames(t, []string{"Ab" + s})
		wantNames(t, []string{s + "z9"})
		wantNames(t, []string{"_", "a" + s + "b", "c"})
	}
	for r := rune(0); r < 0x3000; r++ {
		wantNames(t, []string{"a" + string(r)})
	}
	for _, r := range []rune{0xd7ff, 0xe000, 0xfffd, 0xff21, 0xff41, 0xff10, 0x1d400, 0x10ffff} {
		wantNames(t, []string{string(r)})
	}
	wantNames(t, []string{"a\xc3"})
	wantNames(t, []string{"\xed\xa0\x80"})
}

// P5.1: how many, how long, and which are the same.
func TestHowManyNames(t *testing.T) {
	for n := range 70 {
		l := many(n)
		if prop.Names(l) != (n >= 1 && n <= 32) {
			t.Error("so many names:", n)
		}
		wantNames(t, l)
		wantNames(t, slices.Concat(l, []string{""}))
		for i := range l {
			for _, j := range []int{0, n / 2, n - 1} {
				m := slices.Clone(l)
				m[i] = m[j]
				wantNames(t, m)
			}
		}
	}
	for n := range 90 {
		for _, s := range []string{"a", "Z", "0", "_"} {
			if prop.Names([]string{strings.Repeat(s, n)}) != (n >= 1 && n <= 40) {
				t.Error("a name so long:", n)
			}
			wantNames(t, []string{strings.Repeat(s, n)})
			wantNames(t, []string{"b", strings.Repeat(s, n), "c"})
		}
		wantNames(t, []string{strings.Repeat("é", n)})
	}
	wantNames(t, nil)
	wantNames(t, []string{})
	wantNames(t, []string{"a", "A"})
	wantNames(t, []string{"a", "b", "a"})
	wantNames(t, make([]string, 1<<16))
	wantNames(t, []string{strings.Repeat("a", 1<<20)})
}

// P5.1: the first of any texts, be they names or not.
func TestValue(t *testing.T) {
	texts := []string{"", "a", "b", "A", "a b", "é", "\xff", strings.Repeat("x", 50)}
	for _, a := range texts {
		for _, b := range texts {
			for _, c := range texts {
				for n := range 4 {
					l := []string{a, b, c}[:n]
					for _, s := range texts {
						want := slices.Index(l, s)
						v, ok := prop.Value(l, s)
						if ok != (want >= 0) || v != max(want, 0) {
							t.Fatalf("Value(%q, %q) = %d, %v", l, s, v, ok)
						}
					}
				}
			}
		}
	}
	l := many(100)
	for i, s := range l {
		if v, ok := prop.Value(slices.Concat(l, l), s); v != i || !ok {
			t.Fatal(s, v, ok)
		}
	}
	if v, ok := prop.Value(l, "n100"); v != 0 || ok {
		t.Fatal(v, ok)
	}
}

// P5.2: files by hand, with what they say told by hand.
func TestFilesByHand(t *testing.T) {
	n := []string{"Other", "Extend", "RI"}
	no, yes := false, true
	for _, x := range []struct {
		file  string
		k     int
		loose bool
		want  []api.Range
		line  int
		e     api.Errno
	}{
		{"0300..036F ; Extend", 0, no, []api.Range{rg(0x300, 0x36f, 1)}, 0, api.OK},
		{"", 0, no, nil, 0, api.OK},
		{"# nothing\n\n \t\r\n", 0, no, nil, 0, api.OK},
		{"0300;Other", 0, no, []api.Range{rg(0x300, 0x300, 0)}, 0, api.OK},
		// Tight, in the numbers' order, whatever the records' one.
		{"0043;RI\n0042;Extend\n0041;Extend\n0044;RI", 0, no, []api.Range{rg(0x41, 0x42, 1), rg(0x43, 0x44, 2)}, 0, api.OK},
		{"0041;RI\n0043;RI\n0042;RI", 0, no, []api.Range{rg(0x41, 0x43, 2)}, 0, api.OK},
		{"0000..10FFFF;RI", 0, no, []api.Range{rg(0, 0x10ffff, 2)}, 0, api.OK},
		{"D800..DFFF;RI\nD7FF;RI", 0, no, []api.Range{rg(0xd7ff, 0xdfff, 2)}, 0, api.OK},
		{"10FFFF;RI\n0000;Extend", 0, no, []api.Range{rg(0, 0, 1), rg(0x10ffff, 0x10ffff, 2)}, 0, api.OK},
		// Which field.
		{"0041;Extend;RI", 0, no, []api.Range{rg(0x41, 0x41, 1)}, 0, api.OK},
		{"0041;Extend;RI", 1, no, []api.Range{rg(0x41, 0x41, 2)}, 0, api.OK},
		{"0041;Extend;RI", 2, no, nil, 1, api.ErrName},
		{"0041;Extend;RI", 19, no, nil, 1, api.ErrName},
		{"0041;Extend;RI", 19, yes, nil, 0, api.OK},
		{"0041;" + strings.Repeat("x;", 19) + "RI", 19, no, []api.Range{rg(0x41, 0x41, 2)}, 0, api.OK},
		{"0041;" + strings.Repeat("x;", 18) + "RI", 19, no, nil, 1, api.ErrName},
		// Names as they are written.
		{"0041;ri", 0, no, nil, 1, api.ErrName},
		{"0041;R I", 0, no, nil, 1, api.ErrName},
		{"0041; RI\t# x", 0, no, []api.Range{rg(0x41, 0x41, 2)}, 0, api.OK},
		{"0041;", 0, no, nil, 1, api.ErrName},
		{"0041;", 0, yes, nil, 0, api.OK},
		{"0041;;RI", 1, yes, []api.Range{rg(0x41, 0x41, 2)}, 0, api.OK},
		// What laps.
		{"0041..0045;RI\n\n0043;Other", 0, no, nil, 3, api.ErrLap},
		{"0041;RI\n0041;RI", 0, no, nil, 2, api.ErrLap},
		{"0041;RI\n0041;RI", 0, yes, nil, 2, api.ErrLap},
		{"0041..0043;RI\n0044;RI\n0040..0041;RI", 0, no, nil, 3, api.ErrLap},
		{"0041..0043;RI\n0044;RI\n0043..0044;RI", 0, no, nil, 3, api.ErrLap},
		{"0041;RI\n0000..10FFFF;RI", 0, no, nil, 2, api.ErrLap},
		{"0000..10FFFF;RI\n10FFFF;RI", 0, no, nil, 2, api.ErrLap},
		// What says nothing laps nothing.
		{"0041..0045;Odd\n0043;RI", 0, yes, []api.Range{rg(0x43, 0x43, 2)}, 0, api.OK},
		{"0043;RI\n0041..0045;Odd", 0, yes, []api.Range{rg(0x43, 0x43, 2)}, 0, api.OK},
		{"0043;RI\n0041..0045;Odd\n0042;RI", 0, yes, []api.Range{rg(0x42, 0x43, 2)}, 0, api.OK},
		{"0000;Odd\n0000;RI", 0, yes, []api.Range{rg(0, 0, 2)}, 0, api.OK},
		{"0000;Other\n0000;RI", 0, yes, nil, 2, api.ErrLap},
		{"0000;Other\n0001;Odd", 0, yes, []api.Range{rg(0, 0, 0)}, 0, api.OK},
		// What is wrong first.
		{"0041;Odd\n0042;RI\n0042;RI", 0, no, nil, 1, api.ErrName},
		{"0042;RI\n0042;RI\n0041;Odd", 0, no, nil, 2, api.ErrLap},
		{"0042;RI\n0042;Odd\n0042;RI", 0, no, nil, 2, api.ErrName},
		{"0041;Odd\n0042;RI\nx", 0, no, nil, 3, api.ErrHex},
		{"0041;RI\n0041;RI\n0042..0041;RI", 0, no, nil, 3, api.ErrRange},
		{"0041;RI\n0041;RI\n0042", 0, yes, nil, 3, api.ErrField},
		{"0041;Odd\n" + strings.Repeat("#", 20000), 0, no, nil, 0, api.ErrFile},
		{strings.Repeat("0041;Odd\n", 301), 0, no, nil, 301, api.ErrMany},
		{"x", -1, no, nil, 0, api.ErrArg},
		{"x", 20, yes, nil, 0, api.ErrArg},
		{"", math.MinInt, no, nil, 0, api.ErrArg},
		{"", math.MaxInt, yes, nil, 0, api.ErrArg},
	} {
		wantRead(t, x.file, n, x.k, x.loose, x.want, x.line, x.e)
	}
	wantRead(t, "0041;a", []string{"a", "a"}, 20, false, nil, 0, api.ErrArg)
}

// each calls do with each list of n of the texts.
func each(n int, texts []string, do func([]string)) {
	l := make([]string, n)
	var lay func(int)
	lay = func(i int) {
		if i == n {
			do(l)
			return
		}
		for _, s := range texts {
			l[i] = s
			lay(i + 1)
		}
	}
	lay(0)
}

// P5.2, P5.3: all files of up to three of these lines are what the document's words say.
func TestSmallFiles(t *testing.T) {
	names := []string{"a", "b"}
	lines := []string{"", "0041;a", "0042;b", "0041..0042;a", "0042..0043;a;b", "0043;b;a", "0044;x;a", "0040..0045;x", "0040;b;x;a", "0041..0043;a;a;a", "x;a"}
	for n := range 4 {
		each(n, lines, func(l []string) {
			file := strings.Join(l, "\n")
			for k := -1; k < 4; k++ {
				wantWords(t, file, names, k, false)
				wantWords(t, file, names, k, true)
			}
			wantWords(t, file, names[:1], 0, true)
			wantWords(t, file, []string{"b", "a"}, 0, false)
		})
	}
}

// P5.2: as many records as a file may have, and one more.
func TestSoManyRecords(t *testing.T) {
	names := many(32)
	apart, joined := "", ""
	var said []api.Range
	for i := range 300 {
		v := i % 32
		apart += fmt.Sprintf("%04X..%04X;n%d\n", 1000-3*i, 1001-3*i, v)
		said = append(said, rg(1000-3*i, 1001-3*i, v))
		joined += fmt.Sprintf("%04X;n31\n", 2000-i)
	}
	slices.Reverse(said)
	wantRead(t, apart, names, 0, false, said, 0, api.OK)
	wantRead(t, joined, names, 0, false, []api.Range{rg(1701, 2000, 31)}, 0, api.OK)
	wantRead(t, joined+"9999;n0\n", names, 0, true, nil, 301, api.ErrMany)
	wantRead(t, strings.TrimSuffix(apart, "\n")+"\n# more", names, 0, true, said, 0, api.OK)
	l := strings.Split(apart, "\n")[:299]
	for i := range l {
		last := fmt.Sprintf("%04X;n0", 1001-3*i)
		wantRead(t, strings.Join(append(slices.Clone(l), last), "\n"), names, 0, false, nil, 300, api.ErrLap)
	}
}

// P5.2: what is said of a number, of all kinds of numbers.
func TestOf(t *testing.T) {
	names := []string{"Other", "Extend", "RI", "X_1"}
	file := "0000;RI\n0041..0043;Extend\n0045;Other\n10FFFE..10FFFF;X_1"
	for r, want := range map[int]string{
		math.MinInt: "Other", -1: "Other", 0: "RI", 1: "Other", 0x40: "Other", 0x41: "Extend", 0x42: "Extend", 0x43: "Extend",
		0x44: "Other", 0x45: "Other", 0x10fffd: "Other", 0x10fffe: "X_1", 0x10ffff: "X_1", 0x110000: "Other", 1<<32 + 0x41: "Other", math.MaxInt: "Other",
	} {
		if s, e := prop.Of(file, names, r); s != want || e != api.OK {
			t.Errorf("Of %x = %q, %d", r, s, e)
		}
	}
	for file, want := range map[string]api.Errno{
		"0041;RI;x\n0042;x;RI": api.ErrName, "0041;RI\n0041;RI": api.ErrLap, "x": api.ErrHex, "0041": api.ErrField,
		"0042..0041;RI": api.ErrRange, strings.Repeat("\n", 20001): api.ErrFile, strings.Repeat("0041;\n", 301): api.ErrMany,
	} {
		if s, e := prop.Of(file, names, 0x41); s != "" || e != want {
			t.Errorf("Of(%.40q) = %q, %d, wanted %d", file, s, e, want)
		}
	}
	if s, e := prop.Of("0041;RI;Extend", []string{"RI"}, 0x42); s != "RI" || e != api.OK {
		t.Error(s, e)
	}
}

func wantWrite(t *testing.T, l []api.Range, names []string) {
	t.Helper()
	want, e := writeOf(l, names)
	if s, f := prop.Write(l, names); s != want || e != f {
		t.Fatalf("Write(%.12v, %.60q) = %.200q, %d, wanted %.200q, %d", l, names, s, f, want, e)
	}
}

// P5.2: maps by hand, and what is none.
func TestWrite(t *testing.T) {
	names := []string{"Other", "Extend", "RI"}
	m := []api.Range{rg(0x41, 0x42, 2), rg(0x43, 0x43, 2), rg(0x300, 0x300, 0), rg(0x10000, 0x10ffff, 1)}
	if s, e := prop.Write(m, names); s != "0041..0042;RI\n0043;RI\n0300;Other\n10000..10FFFF;Extend\n" || e != api.OK {
		t.Error(s, e)
	}
	if s, e := prop.Write(nil, names); s != "" || e != api.OK {
		t.Error(s, e)
	}
	for v := -2; v < 40; v++ {
		for n := range 35 {
			wantWrite(t, []api.Range{rg(1, 2, 0), rg(5, 6, v)}, many(n))
			wantWrite(t, []api.Range{rg(1, 2, v), rg(5, 6, 0)}, many(n))
		}
	}
	for _, l := range [][]api.Range{
		{rg(2, 1, 0)}, {rg(-1, 1, 0)}, {rg(0, 0x110000, 0)}, {rg(1, 3, 0), rg(3, 4, 0)}, {rg(5, 6, 0), rg(1, 2, 0)},
		{rg(1, 1, -1)}, {rg(1, 1, 3)}, {rg(1, 1, 32)}, {rg(1, 1, math.MinInt)}, {rg(1, 1, math.MaxInt)},
	} {
		if s, e := prop.Write(l, names); s != "" || e != api.ErrRange {
			t.Errorf("Write(%v) = %q, %d", l, s, e)
		}
		if s, e := prop.Write(l, []string{"a", "a"}); s != "" || e != api.ErrArg {
			t.Errorf("Write(%v) by no names = %q, %d", l, s, e)
		}
	}
	for _, n := range []int{300, 301, 599, 600, 601} {
		var l []api.Range
		for i := range n {
			l = append(l, rg(2*i, 2*i, i%3))
		}
		wantWrite(t, l, names)
		if s, _ := prop.Write(l, names); strings.Count(s, "\n") != n && n <= 600 {
			t.Errorf("a map of %d ranges is not written whole", n)
		}
	}
}

// P5.3: all small maps, and some greater ones, are read of their file as they are, tight.
func TestReadOfWhatIsWritten(t *testing.T) {
	names := []string{"a", "B_2", "c"}
	check := func(l []api.Range, names []string) {
		t.Helper()
		s, e := prop.Write(l, names)
		if e != api.OK {
			t.Fatal(l, e)
		}
		want, _ := span.Tight(l)
		for _, loose := range []bool{false, true} {
			wantRead(t, s, names, 0, loose, want, 0, api.OK)
		}
	}
	for _, low := range []int{0, 0xd7fe, 0xfffe, 0x10fffc} {
		var lay func([]api.Range, int)
		lay = func(l []api.Range, from int) {
			check(l, names)
			for x := from; x < low+4; x++ {
				for y := x; y < low+4; y++ {
					for v := range names {
						lay(append(slices.Clone(l), rg(x, y, v)), y+1)
					}
				}
			}
		}
		lay(nil, low)
	}
	var l []api.Range
	for i := range 300 {
		l = append(l, rg(7*i, 7*i+i%7, i%32))
	}
	check(l, many(32))
}

// P5.3: records say the same in any order.
func TestOrderOfRecords(t *testing.T) {
	lines := []string{"0041;a", "0042..0043;b", "0045;a", "0044;a", "0040;b"}
	names := []string{"a", "b"}
	want := []api.Range{rg(0x40, 0x40, 1), rg(0x41, 0x41, 0), rg(0x42, 0x43, 1), rg(0x44, 0x45, 0)}
	each(len(lines), lines, func(l []string) {
		m := slices.Clone(l)
		slices.Sort(m)
		if len(slices.Compact(m)) == len(lines) {
			wantRead(t, strings.Join(l, "\n"), names, 0, false, want, 0, api.OK)
		}
	})
}

// R3: what is answered is new, spare room too, each time.
func TestAnswersAreNew(t *testing.T) {
	names := []string{"a", "b"}
	file := "0041;a\n0043;b\n0045;a"
	first, _, _ := prop.Read(file, names, 0, false)
	want := slices.Clone(first)
	second, _, _ := prop.Read(file, names, 0, false)
	all := second[:cap(second)]
	for i := range all {
		all[i] = rg(9, 9, 9)
	}
	if !slices.Equal(first, want) {
		t.Error("two answers share memory")
	}
	wantRead(t, file, names, 0, false, want, 0, api.OK)
}

// R3: names and ranges that are handed in stay, their spare room too; and they may change when the call has answered.
func TestArgumentsStay(t *testing.T) {
	n := append(make([]string, 0, 9), "a", "b", "c", "left", "over")
	l := append(make([]api.Range, 0, 9), rg(1, 2, 0), rg(3, 3, 1), rg(5, 5, 1), rg(9, 9, 9))
	names, ranges := slices.Clone(n), slices.Clone(l)
	for k := range 3 {
		prop.Names(n[:k])
		prop.Value(n[:k], "b")
		prop.Read("0042;b\n0041;a;c\n0040;b", n[:k], 0, true)
		prop.Write(l[:k+1], n[:k])
		prop.Of("0042;b\n0041;a;c", n[:2], 0x41)
	}
	if !slices.Equal(n, names) || !slices.Equal(l, ranges) {
		t.Error("an argument was written into:", n, l)
	}
	for _, s := range n[len(n):cap(n)] {
		if s != "" {
			t.Error("spare room was written into:", s)
		}
	}
	for _, x := range l[len(l):cap(l)] {
		if x != (api.Range{}) {
			t.Error("spare room was written into:", x)
		}
	}
	m, _, _ := prop.Read("0042;b\n0041;a", n[:2], 0, false)
	n[0], n[1] = "b", "a"
	if !slices.Equal(m, []api.Range{rg(0x41, 0x41, 0), rg(0x42, 0x42, 1)}) {
		t.Error("an answer changed:", m)
	}
	wantRead(t, "0042;b\n0041;a", n[:2], 0, false, []api.Range{rg(0x41, 0x41, 1), rg(0x42, 0x42, 0)}, 0, api.OK)
}
