package field_test

import (
	"fmt"
	"math"
	"regexp"
	"slices"
	"strconv"
	"strings"
	"testing"

	"virama/api"
	"virama/field"
)

// The document's words, written out again.
var (
	codeForm  = regexp.MustCompile(`^[0-9A-Fa-f]{4,6}$`)
	codesForm = regexp.MustCompile(`^([0-9A-Fa-f]{4,6}( +[0-9A-Fa-f]{4,6})*)?$`)
	endsForm  = regexp.MustCompile(`^([0-9A-Fa-f]{4,6})(?:\.\.([0-9A-Fa-f]{4,6}))?$`)
)

// number is what hexadecimal digits say, as the standard library reads them.
func number(s string) int {
	n, err := strconv.ParseUint(s, 16, 64)
	if err != nil {
		panic(err)
	}
	return int(n)
}

// bare is s without blanks at both ends.
func bare(s string) string {
	for s != "" && strings.Contains(" \t\r", s[:1]) {
		s = s[1:]
	}
	for s != "" && strings.Contains(" \t\r", s[len(s)-1:]) {
		s = s[:len(s)-1]
	}
	return s
}

// lineOf is what the document's words say of a line.
func lineOf(s string) (api.Record, bool, api.Errno) {
	if i := strings.IndexByte(s, '#'); i >= 0 {
		s = s[:i]
	}
	if s = bare(s); s == "" {
		return api.Record{}, false, api.OK
	}
	fields := strings.Split(s, ";")
	for i := range fields {
		fields[i] = bare(fields[i])
	}
	m := endsForm.FindStringSubmatch(fields[0])
	if m == nil {
		return api.Record{}, false, api.ErrHex
	}
	if m[2] == "" {
		m[2] = m[1]
	}
	x := api.Record{From: number(m[1]), To: number(m[2]), Fields: fields[1:]}
	if x.To < x.From || x.To > 0x10ffff {
		return api.Record{}, false, api.ErrRange
	}
	if len(x.Fields) < 1 || len(x.Fields) > 20 {
		return api.Record{}, false, api.ErrField
	}
	return x, true, api.OK
}

// wantSame asks that a and b are the same, without asking the package.
func wantSame(t *testing.T, what string, a, b api.Record) {
	t.Helper()
	if a.Line != b.Line || a.From != b.From || a.To != b.To || !slices.Equal(a.Fields, b.Fields) {
		t.Fatalf("%.60q: %+v, wanted %+v", what, a, b)
	}
}

// wantCode asks Code, and Codes, as one code is codes too.
func wantCode(t *testing.T, s string) {
	t.Helper()
	want, ok := 0, codeForm.MatchString(s)
	if ok {
		want = number(s)
	}
	if n, k := field.Code(s); n != want || k != ok {
		t.Fatalf("Code(%q) = %x, %v, wanted %x, %v", s, n, k, want, ok)
	}
	wantCodes(t, s)
}

func wantCodes(t *testing.T, s string) {
	t.Helper()
	var want []int
	ok := codesForm.MatchString(s)
	if ok {
		for _, c := range strings.Fields(s) {
			want = append(want, number(c))
		}
	}
	if l, k := field.Codes(s); !slices.Equal(l, want) || k != ok {
		t.Fatalf("Codes(%q) = %x, %v, wanted %x, %v", s, l, k, want, ok)
	}
}

// P3.1: codes of four digits all, those of five and of six here and there and at the ends, in small and in big digits.
func TestCodesOfNumbers(t *testing.T) {
	ask := func(n, digits int) {
		for _, form := range []string{"%0*x", "%0*X"} {
			s := fmt.Sprintf(form, digits, n)
			if x, ok := field.Code(s); x != n || !ok {
				t.Fatalf("Code(%q) = %x, %v", s, x, ok)
			}
		}
	}
	for n := 0; n <= 0xffff; n++ {
		ask(n, 4)
	}
	for n := 0; n <= 0xfffff; n += 101 {
		ask(n, 5)
	}
	for n := 0; n <= 0xffffff; n += 1009 {
		ask(n, 6)
	}
	for _, n := range []int{0, 1, 0xf, 0x10, 0xffff, 0x10000, 0xfffff} {
		ask(n, 5)
		ask(n, 6)
	}
	for _, n := range []int{0x100000, 0x10ffff, 0x110000, 0xfffffe, 0xffffff} {
		ask(n, 6)
	}
	if n, ok := field.Code("aBcDeF"); n != 0xabcdef || !ok {
		t.Errorf("%x, %v", n, ok)
	}
}

// P3.1: each byte at each place of a code of each length, instead of what is there, and put between.
func TestCodesWithEveryByte(t *testing.T) {
	for n := range 10 {
		s := "1a2B3c4D5e"[:n]
		wantCode(t, s)
		for i := range n + 1 {
			for b := range 256 {
				y := string([]byte{byte(b)})
				wantCode(t, s[:i]+y+s[i:])
				if i < n {
					wantCode(t, s[:i]+y+s[i+1:])
				}
			}
		}
	}
}

// P3.1: what is no code.
func TestTextsThatAreNoCodes(t *testing.T) {
	for _, s := range []string{
		"", "0", "00", "041", "0000041", "00000000", strings.Repeat("0", 1000),
		"00G1", "00g1", "g041", "004g", " 0041", "0041 ", "\t0041", "0041\t", "0041\r", "0041\n", "0041\x00",
		"-041", "-0041", "+041", "+0041", "0x41", "0X0041", "U+0041", "0_41", "00_41", "00.41", "0041h", "0041;", "#0041",
		"００４１", "٠٠٤١", "004１", "00é1", "ａbcd", "0041\xff", "\xff041", "\x80\x80\x80\x80", "@041", "`041", "/041", ":041",
	} {
		if n, ok := field.Code(s); n != 0 || ok {
			t.Errorf("Code(%q) = %x, %v", s, n, ok)
		}
	}
}

// P3.1: codes with blanks between, by hand.
func TestCodesByHand(t *testing.T) {
	for _, c := range []struct {
		s string
		l []int
	}{
		{"", nil},
		{"0053", []int{0x53}},
		{"0053 0073", []int{0x53, 0x73}},
		{"0053    0073", []int{0x53, 0x73}},
		{"0053 0053 0053", []int{0x53, 0x53, 0x53}},
		{"1F600  1f600 10ffff FFFFFF 0000", []int{0x1f600, 0x1f600, 0x10ffff, 0xffffff, 0}},
		{strings.Repeat("00e9 ", 5000) + "00E9", slices.Repeat([]int{0xe9}, 5001)},
	} {
		if l, ok := field.Codes(c.s); !slices.Equal(l, c.l) || !ok {
			t.Errorf("Codes(%q) = %x, %v", c.s, l, ok)
		}
	}
	for _, s := range []string{
		" ", "  ", "\t", " 0053", "0053 ", "0053 0073 ", "  0053 0073", "53", "0053 73", "53 0073", "0053 0000073",
		"0053\t0073", "0053 \t0073", "0053\n0073", "0053\r0073", "0053\u00a00073", "0053,0073", "0053;0073", "0053 x 0073", "0053..0073", "0053 0073 00G0",
	} {
		if l, ok := field.Codes(s); len(l) != 0 || ok {
			t.Errorf("Codes(%q) = %x, %v", s, l, ok)
		}
	}
}

// each goes through all texts of n of these pieces.
func each(n int, pieces []string, do func(string)) {
	var fill func(string, int)
	fill = func(s string, n int) {
		if n == 0 {
			do(s)
			return
		}
		for _, p := range pieces {
			fill(s+p, n-1)
		}
	}
	fill("", n)
}

// P3.1: all texts of a few pieces of codes.
func TestCodesByForm(t *testing.T) {
	for n := range 7 {
		each(n, []string{"0053", "1f600", " ", "  ", "\t", "x"}, func(s string) { wantCodes(t, s) })
	}
}

// P3.1: lines that are records, by hand.
func TestLinesByHand(t *testing.T) {
	twenty := slices.Repeat([]string{""}, 20)
	for _, c := range []struct {
		s        string
		from, to int
		fields   []string
	}{
		{"0041..005A ; Upper # A to Z", 0x41, 0x5a, []string{"Upper"}},
		{"0041;a", 0x41, 0x41, []string{"a"}},
		{"0041;", 0x41, 0x41, []string{""}},
		{"0041; # nothing", 0x41, 0x41, []string{""}},
		{"0041;#;b;c", 0x41, 0x41, []string{""}},
		{"0041;a#b;c", 0x41, 0x41, []string{"a"}},
		{"0041;a#b#c", 0x41, 0x41, []string{"a"}},
		{"0041;;", 0x41, 0x41, []string{"", ""}},
		{"0041; ; b;", 0x41, 0x41, []string{"", "b", ""}},
		{"\t\r 00E9 \t\r;\t\r a \t\r; b  c \t;\r\t ", 0xe9, 0xe9, []string{"a", "b  c", ""}},
		{"00e9;a\tb;c\rd;a b", 0xe9, 0xe9, []string{"a\tb", "c\rd", "a b"}},
		{"0041..0041;a", 0x41, 0x41, []string{"a"}},
		{"0000..10FFFF;all", 0, 0x10ffff, []string{"all"}},
		{"10ffff;last", 0x10ffff, 0x10ffff, []string{"last"}},
		{"D800..DFFF;halves", 0xd800, 0xdfff, []string{"halves"}},
		{"000041..00005a;a", 0x41, 0x5a, []string{"a"}},
		{"0041" + strings.Repeat(";", 20), 0x41, 0x41, twenty},
		{"0041;\n", 0x41, 0x41, []string{"\n"}},
		{"0041;a\n0042;b", 0x41, 0x41, []string{"a\n0042", "b"}},
		{"0041;\n#x", 0x41, 0x41, []string{"\n"}},
		{"0041;\xff\x80;é;\x00", 0x41, 0x41, []string{"\xff\x80", "é", "\x00"}},
		{"0041;\u00a0a\u00a0;\va\f;\u2003", 0x41, 0x41, []string{"\u00a0a\u00a0", "\va\f", "\u2003"}},
		{"0041;..;0042..0043", 0x41, 0x41, []string{"..", "0042..0043"}},
		{"0041;" + strings.Repeat("x", 100000), 0x41, 0x41, []string{strings.Repeat("x", 100000)}},
	} {
		x, ok, e := field.Line(c.s)
		if !ok || e != api.OK {
			t.Errorf("Line(%q): %v, %d", c.s, ok, e)
		}
		wantSame(t, c.s, x, api.Record{From: c.from, To: c.to, Fields: c.fields})
	}
}

// wantNoRecord asks that the line says none.
func wantNoRecord(t *testing.T, s string, want api.Errno) {
	t.Helper()
	x, ok, e := field.Line(s)
	if ok || e != want {
		t.Errorf("Line(%q): %v, %d, wanted %d", s, ok, e, want)
	}
	wantSame(t, s, x, api.Record{})
}

// P3.1: lines that count for nothing.
func TestLinesThatCountForNothing(t *testing.T) {
	for _, s := range []string{"", " ", "\t", "\r", " \t\r ", "#", "# 0041;a", "\t # x;y", "##", "#\n", strings.Repeat(" ", 100000)} {
		wantNoRecord(t, s, api.OK)
	}
}

// P3.1: lines that are wrong, each with the error that is named first.
func TestLinesThatAreWrong(t *testing.T) {
	for want, l := range map[api.Errno][]string{
		api.ErrHex: {
			"x;y", ";y", ";", " ; ", ";;", ";0041", "x", "\n", "\n\n", "\n# x", "\v", "\u00a0", ".", "..", "..;a",
			"041;a", "0000041;a", "00G1;a", "0041..;a", "..0041;a", "0041.;a", "0041.0042;a", "0041...0042;a", "0041....0042;a",
			"0041..0042..0043;a", "0041 ..0042;a", "0041.. 0042;a", "0041 .. 0042;a", "0041 0042;a", "0041-0042;a", "0041,a",
			"\n0041;a", "0041\n;a", "\u00a00041;a", "\ufeff0041;a", "0041..#0042;a", "-0041;a", "U+0041;a", "'a';b",
			"0041..041;a", "041..0041;a", "0042..041" + strings.Repeat(";", 21), "x" + strings.Repeat(";", 21), "110000..x",
		},
		api.ErrRange: {
			"0042..0041;a", "110000;a", "110000..110000;a", "0041..110000;a", "FFFFFF;a", "0000..FFFFFF;a", "10FFFF..10FFFE;a",
			"110000..10FFFF;a", "FFFFFF..0000;a", "0001..0000;", "0042..0041", "110000", "0042..0041" + strings.Repeat(";", 21), "FFFFFF" + strings.Repeat(";", 100),
		},
		api.ErrField: {
			"0041", " 0041 ", "0041 # a", "0041..005A", "0041#;a", "10FFFF",
			"0041" + strings.Repeat(";", 21), "0041" + strings.Repeat(";a", 21), "0041..0042" + strings.Repeat("; ", 22), "0041" + strings.Repeat(";", 100000),
		},
	} {
		for _, s := range l {
			wantNoRecord(t, s, want)
		}
	}
}

// P3.1: how many fields there may be.
func TestLinesWithSoManyFields(t *testing.T) {
	for n := range 30 {
		s := "0041"
		var l []string
		for i := range n {
			s += "; f" + strconv.Itoa(i)
			l = append(l, "f"+strconv.Itoa(i))
		}
		if n < 1 || n > api.MaxFields {
			wantNoRecord(t, s, api.ErrField)
			continue
		}
		x, ok, e := field.Line(s)
		if !ok || e != api.OK {
			t.Errorf("Line(%q): %v, %d", s, ok, e)
		}
		wantSame(t, s, x, api.Record{From: 0x41, To: 0x41, Fields: l})
	}
}

// P3.1: all texts of a few pieces of lines, by the document's words.
func TestLinesByForm(t *testing.T) {
	ask := func(s string) {
		want, counts, e := lineOf(s)
		x, ok, f := field.Line(s)
		if ok != counts || f != e {
			t.Fatalf("Line(%q): %v, %d, wanted %v, %d", s, ok, f, counts, e)
		}
		wantSame(t, s, x, want)
	}
	for n := range 6 {
		each(n, []string{"0041", "10FFFF", "110000", "..", ".", ";", " ", "\t", "\r", "\n", "#", "a"}, ask)
	}
	for b := range 256 {
		y := string([]byte{byte(b)})
		for _, s := range []string{"0041;a", "0041..0042 ; a b", ";", "0041"} {
			for i := range len(s) + 1 {
				ask(s[:i] + y + s[i:])
				if i < len(s) {
					ask(s[:i] + y + s[i+1:])
				}
			}
		}
	}
}

// wantFile asks that the file's records are these.
func wantFile(t *testing.T, s string, want ...api.Record) {
	t.Helper()
	l, n, e := field.Parse(s)
	if n != 0 || e != api.OK || len(l) != len(want) {
		t.Fatalf("Parse(%.60q): %d records, %d, %d", s, len(l), n, e)
	}
	for i, x := range l {
		wantSame(t, s, x, want[i])
	}
}

// wantFault asks that the file is wrong so.
func wantFault(t *testing.T, s string, line int, want api.Errno) {
	t.Helper()
	if l, n, e := field.Parse(s); len(l) != 0 || n != line || e != want {
		t.Errorf("Parse(%.60q): %d records, %d, %d, wanted %d, %d", s, len(l), n, e, line, want)
	}
}

// rec is a record of one field.
func rec(line, from, to int, f string) api.Record {
	return api.Record{Line: line, From: from, To: to, Fields: []string{f}}
}

// P3.2: files that are right, by hand.
func TestFilesByHand(t *testing.T) {
	wantFile(t, "")
	wantFile(t, "\n")
	wantFile(t, "\n\n # x\n\t\r\n#")
	wantFile(t, "0041;a", rec(1, 0x41, 0x41, "a"))
	wantFile(t, "0041;a\n", rec(1, 0x41, 0x41, "a"))
	wantFile(t, "\n\n0041;a\n\n", rec(3, 0x41, 0x41, "a"))
	wantFile(t, "# x\n0041;a\n\n0042..0043;b", rec(2, 0x41, 0x41, "a"), rec(4, 0x42, 0x43, "b"))
	wantFile(t, "# x\r\n0041;a\r\n\r\n0042..0043;b\r\n", rec(2, 0x41, 0x41, "a"), rec(4, 0x42, 0x43, "b"))
	wantFile(t, "0041;a\n0041;a\n0040;a", rec(1, 0x41, 0x41, "a"), rec(2, 0x41, 0x41, "a"), rec(3, 0x40, 0x40, "a"))
	wantFile(t, "0041;a # 0042;b\n0043;\xff", rec(1, 0x41, 0x41, "a"), rec(2, 0x43, 0x43, "\xff"))
	wantFile(t, "0041;a\r0042;b", api.Record{Line: 1, From: 0x41, To: 0x41, Fields: []string{"a\r0042", "b"}})
}

// P3.2: the first line that is wrong, whatever is wrong behind it.
func TestFilesThatAreWrong(t *testing.T) {
	wantFault(t, "x", 1, api.ErrHex)
	wantFault(t, "0041;a\nx", 2, api.ErrHex)
	wantFault(t, "0041;a\n\n# y\nx;y\n", 4, api.ErrHex)
	wantFault(t, "0042..0041;a\nx", 1, api.ErrRange)
	wantFault(t, "0041\nx\n110000;a", 1, api.ErrField)
	wantFault(t, "0041;a\n110000;a\nx", 2, api.ErrRange)
	wantFault(t, "0041;a\n0041"+strings.Repeat(";", 21)+"\nx", 2, api.ErrField)
	wantFault(t, "0041;a\n;\n0041", 2, api.ErrHex)
	wantFault(t, "0041..\n0042;a", 1, api.ErrHex)
}

// P3.2: how long a file may be.
func TestFilesOfSoManyBytes(t *testing.T) {
	wantFile(t, strings.Repeat("#", 20000))
	wantFile(t, strings.Repeat("\n", 20000))
	wantFile(t, "0041;a\n"+strings.Repeat(" ", 20000-7), rec(1, 0x41, 0x41, "a"))
	wantFile(t, "0041;"+strings.Repeat("x", 20000-5), rec(1, 0x41, 0x41, strings.Repeat("x", 20000-5)))
	wantFile(t, strings.Repeat("\n", 20000-6)+"0041;a", rec(20000-5, 0x41, 0x41, "a"))
	wantFault(t, strings.Repeat("\n", 20000-1)+"x", 20000, api.ErrHex)
	wantFault(t, strings.Repeat("#", 20001), 0, api.ErrFile)
	wantFault(t, "x\n"+strings.Repeat("\n", 20001-2), 0, api.ErrFile)
	wantFault(t, strings.Repeat("0041;a\n", 301)+strings.Repeat(" ", 20000), 0, api.ErrFile)
	wantFault(t, strings.Repeat("0041;a\n", 1000000), 0, api.ErrFile)
}

// P3.2: how many records there may be, and what is wrong first.
func TestFilesOfSoManyRecords(t *testing.T) {
	full := strings.Repeat("0041;a\n", 300)
	var want []api.Record
	for i := range 300 {
		want = append(want, rec(i+1, 0x41, 0x41, "a"))
	}
	wantFile(t, full, want...)
	wantFile(t, full+"# x\n\n \n", want...)
	wantFault(t, full+"0042;b", 301, api.ErrMany)
	wantFault(t, full+"# x\n\n0042;b\n", 303, api.ErrMany)
	wantFault(t, "\n\n"+full+"0042;b\n0042;b\n", 303, api.ErrMany)
	wantFault(t, full+"x", 301, api.ErrHex)
	wantFault(t, full+"0041", 301, api.ErrField)
	wantFault(t, full+"110000;a\n0042;b", 301, api.ErrRange)
	wantFault(t, full+"0042;b\nx", 301, api.ErrMany)
	wantFault(t, "x\n"+full+"0042;b", 1, api.ErrHex)
}

// P3.2, P3.1: a file's records are those of its lines.
func TestFilesByTheirLines(t *testing.T) {
	lines := []string{"", " # x\r", "0041;a", "0042..0043 ; b;c # d", "x", "0041", "110000;a", ";", "1F600;\r"}
	for n := range 5 {
		each(n, []string{"0", "1", "2", "3", "4", "5", "6", "7", "8"}, func(key string) {
			var file []string
			var want []api.Record
			var e api.Errno
			at := 0
			for i, k := range key {
				s := lines[k-'0']
				file = append(file, s)
				x, counts, f := lineOf(s)
				if e == api.OK && f != api.OK {
					at, e = i+1, f
				}
				if counts {
					x.Line = i + 1
					want = append(want, x)
				}
			}
			if s := strings.Join(file, "\n"); e != api.OK {
				wantFault(t, s, at, e)
			} else {
				wantFile(t, s, want...)
			}
		})
	}
}

// P3.3: records' print, whatever their numbers are.
func TestPrint(t *testing.T) {
	for _, c := range []struct {
		x    api.Record
		want string
	}{
		{api.Record{}, "0000\n"},
		{rec(7, 0x41, 0x41, "a"), "0041;a\n"},
		{rec(0, 0x41, 0x5a, "Upper"), "0041..005A;Upper\n"},
		{rec(0, 0, 0xf, ""), "0000..000F;\n"},
		{rec(0, 0xab, 0xabc, "b"), "00AB..0ABC;b\n"},
		{rec(0, 0xabcd, 0xabcde, "b"), "ABCD..ABCDE;b\n"},
		{rec(0, 0xfffff, 0x10ffff, "b"), "FFFFF..10FFFF;b\n"},
		{rec(0, 0xffffff, 0x1000000, "b"), "FFFFFF..1000000;b\n"},
		{rec(0, 0x5a, 0x41, "x"), "005A..0041;x\n"},
		{rec(0, -1, -1, "x"), "-0001;x\n"},
		{rec(0, -0x1f, 0x1f, "x"), "-001F..001F;x\n"},
		{rec(0, -0x12345, -0xfffffff, "x"), "-12345..-FFFFFFF;x\n"},
		{rec(0, math.MinInt, math.MaxInt, "x"), "-0000..7FFFFFFFFFFFFFFF;x\n"},
		{rec(0, math.MinInt, math.MinInt, "x"), "-0000;x\n"},
		{rec(0, math.MinInt, 0, "x"), "-0000..0000;x\n"},
		{rec(0, math.MinInt+1, -math.MaxInt, "x"), "-7FFFFFFFFFFFFFFF;x\n"},
		{rec(0, 1<<53, 1<<53+1, "x"), "20000000000000..20000000000001;x\n"},
		{rec(0, math.MaxInt-1, math.MaxInt, "x"), "7FFFFFFFFFFFFFFE..7FFFFFFFFFFFFFFF;x\n"},
		{api.Record{Line: -1, From: 1, To: 1, Fields: []string{" a ", "", "#b;c\n", "\xff"}}, "0001; a ;;#b;c\n;\xff\n"},
		{api.Record{From: 1, To: 2, Fields: []string{}}, "0001..0002\n"},
		{api.Record{From: 1, To: 1, Fields: slices.Repeat([]string{"f"}, 25)}, "0001" + strings.Repeat(";f", 25) + "\n"},
	} {
		if s := field.Print([]api.Record{c.x}); s != c.want {
			t.Errorf("Print(%+v) = %q, wanted %q", c.x, s, c.want)
		}
		if s := field.Print([]api.Record{c.x, rec(0, 1, 1, "z"), c.x}); s != c.want+"0001;z\n"+c.want {
			t.Errorf("Print of three, of %+v: %q", c.x, s)
		}
	}
	for _, l := range [][]api.Record{nil, {}} {
		if s := field.Print(l); s != "" {
			t.Errorf("Print of none: %q", s)
		}
	}
}

// P3.3: records and lists, of which each two are not the same, and each is the same as itself.
func TestSame(t *testing.T) {
	f := func(l ...string) []string { return l }
	lists := [][]api.Record{
		nil,
		{{}},
		{{}, {}},
		{{Line: 1}},
		{{Line: -1}},
		{{From: 1}},
		{{To: 1}},
		{{From: 1, To: 1}},
		{{From: math.MinInt, To: math.MaxInt}},
		{{From: math.MaxInt, To: math.MinInt}},
		{{From: 1<<53 + 1}},
		{{From: 1 << 53}},
		{{Fields: f("")}},
		{{Fields: f("", "")}},
		{{Fields: f("a")}},
		{{Fields: f("A")}},
		{{Fields: f("a ")}},
		{{Fields: f("a", "b")}},
		{{Fields: f("b", "a")}},
		{{Fields: f("ab")}},
		{{Fields: f("a;b")}},
		{{Fields: f("a")}, {Fields: f("b")}},
		{{Fields: f("b")}, {Fields: f("a")}},
		{{Line: 1, From: 2, To: 3, Fields: f("x")}, {Line: 4, From: 5, To: 6, Fields: f("y")}},
		{{Line: 1, From: 2, To: 3, Fields: f("x")}, {Line: 4, From: 5, To: 7, Fields: f("y")}},
	}
	for i, a := range lists {
		for j, b := range lists {
			var other []api.Record
			for _, x := range b {
				x.Fields = slices.Clone(x.Fields)
				other = append(other, x)
			}
			if field.Same(a, other) != (i == j) {
				t.Errorf("Same(%+v, %+v) = %v", a, b, i != j)
			}
		}
	}
}

// R3: nil and empty lists are one.
func TestSameOfNilAndEmpty(t *testing.T) {
	if !field.Same(nil, []api.Record{}) || !field.Same([]api.Record{}, nil) || !field.Same(nil, nil) {
		t.Error("lists")
	}
	a := []api.Record{{From: 1, Fields: nil}}
	b := []api.Record{{From: 1, Fields: []string{}}}
	if !field.Same(a, b) || !field.Same(b, a) || field.Print(a) != field.Print(b) {
		t.Error("fields")
	}
}

// unnumbered are the records without their lines' numbers.
func unnumbered(l []api.Record) []api.Record {
	var m []api.Record
	for _, x := range l {
		x.Line = 0
		m = append(m, x)
	}
	return m
}

// P3.4: what was parsed is parsed of its print, and numbered by it.
func TestParsedOfTheirPrint(t *testing.T) {
	pieces := []string{"0041", "00e9..10ffff", "000042", ";", " a ", "\t", "\r", "\n", "#", "é b", ".."}
	right := 0
	ask := func(s string) {
		l, _, e := field.Parse(s)
		if e != api.OK {
			return
		}
		right += len(l)
		p := field.Print(l)
		m, n, e := field.Parse(p)
		if n != 0 || e != api.OK || !field.Same(unnumbered(l), unnumbered(m)) {
			t.Fatalf("%q, printed %q, parsed %d, %d, %+v", s, p, n, e, m)
		}
		for i, x := range m {
			if x.Line != i+1 {
				t.Fatalf("%q, printed %q: line %d of record %d", s, p, x.Line, i)
			}
		}
		if field.Print(m) != p {
			t.Fatalf("%q, printed %q, then %q", s, p, field.Print(m))
		}
	}
	for n := range 6 {
		each(n, pieces, ask)
	}
	ask(strings.Repeat("  0041;a; b;;  # x\r\n", 300))
	ask("10FFFF" + strings.Repeat(";f", 20))
	ask("0000..10FFFF;" + strings.Repeat("x", 20000-14) + "\n")
	if right < 1000 {
		t.Errorf("only %d records were tried", right)
	}
}

// R3, R4: what is answered is new each time, spare room too, and no two lists share any.
func TestAnswersAreNew(t *testing.T) {
	const s = "0041;a;b;c\n0042..0043;d;e\n0044;f"
	want := []api.Record{
		{Line: 1, From: 0x41, To: 0x41, Fields: []string{"a", "b", "c"}},
		{Line: 2, From: 0x42, To: 0x43, Fields: []string{"d", "e"}},
		{Line: 3, From: 0x44, To: 0x44, Fields: []string{"f"}},
	}
	other, _, _ := field.Parse(s)
	l, _, _ := field.Parse(s)
	for i := range l {
		for k := i; k < len(l); k++ {
			wantSame(t, s, l[k], want[k])
		}
		f := l[i].Fields[:cap(l[i].Fields)]
		for j := range f {
			f[j] = "changed"
		}
	}
	for i := range l[:cap(l)] {
		l[:cap(l)][i] = rec(-1, -1, -1, "changed")
	}
	wantFile(t, s, other...)
	wantFile(t, s, want...)
	a, _ := field.Codes("0041 0042 0043")
	for i := range a[:cap(a)] {
		a[:cap(a)][i] = -1
	}
	if b, ok := field.Codes("0041 0042 0043"); !slices.Equal(b, []int{0x41, 0x42, 0x43}) || !ok {
		t.Error(b, ok)
	}
}

// R3: what is handed in is not written into, nor its spare room.
func TestArgumentsStay(t *testing.T) {
	room := []string{"a", "b", "spare"}
	l := []api.Record{{From: 1, To: 1, Fields: room[:2]}, rec(2, 3, 4, "spare")}
	field.Print(l[:1])
	field.Same(l[:1], l[:1])
	if !slices.Equal(room, []string{"a", "b", "spare"}) {
		t.Error(room)
	}
	wantSame(t, "first", l[0], api.Record{From: 1, To: 1, Fields: []string{"a", "b"}})
	wantSame(t, "spare", l[1], rec(2, 3, 4, "spare"))
}
