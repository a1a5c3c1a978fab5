package scalar_test

import (
	"math"
	"slices"
	"strings"
	"testing"
	"unicode/utf8"

	"virama/api"
	"virama/scalar"
)

// ends are the first and the last byte of a place in a row.
type ends struct{ low, high byte }

// line is a row of the document's table, written out again.
type line struct {
	from, to int
	bytes    []ends
}

var lines = []line{
	{0x0, 0x7f, []ends{{0x00, 0x7f}}},
	{0x80, 0x7ff, []ends{{0xc2, 0xdf}, {0x80, 0xbf}}},
	{0x800, 0xfff, []ends{{0xe0, 0xe0}, {0xa0, 0xbf}, {0x80, 0xbf}}},
	{0x1000, 0xcfff, []ends{{0xe1, 0xec}, {0x80, 0xbf}, {0x80, 0xbf}}},
	{0xd000, 0xd7ff, []ends{{0xed, 0xed}, {0x80, 0x9f}, {0x80, 0xbf}}},
	{0xe000, 0xffff, []ends{{0xee, 0xef}, {0x80, 0xbf}, {0x80, 0xbf}}},
	{0x10000, 0x3ffff, []ends{{0xf0, 0xf0}, {0x90, 0xbf}, {0x80, 0xbf}, {0x80, 0xbf}}},
	{0x40000, 0xfffff, []ends{{0xf1, 0xf3}, {0x80, 0xbf}, {0x80, 0xbf}, {0x80, 0xbf}}},
	{0x100000, 0x10ffff, []ends{{0xf4, 0xf4}, {0x80, 0x8f}, {0x80, 0xbf}, {0x80, 0xbf}}},
}

// least is the first of the row's scalars' bytes.
func (w line) least() []byte {
	var b []byte
	for _, p := range w.bytes {
		b = append(b, p.low)
	}
	return b
}

// count goes on to the bytes that come next in the row, like a counter; false, if there are no more.
func (w line) count(b []byte) bool {
	for i := len(b) - 1; i >= 0; i-- {
		if b[i] < w.bytes[i].high {
			b[i]++
			return true
		}
		b[i] = w.bytes[i].low
	}
	return false
}

// has tells whether s begins with bytes of the row.
func (w line) has(s string) bool {
	if len(s) < len(w.bytes) {
		return false
	}
	for i, p := range w.bytes {
		if s[i] < p.low || s[i] > p.high {
			return false
		}
	}
	return true
}

// begins is how many bytes the scalar has that s begins with, 0 if there is none.
func begins(s string) int {
	for _, w := range lines {
		if w.has(s) {
			return len(w.bytes)
		}
	}
	return 0
}

// samples are scalars at the ends of all rows, beside them and between, with their bytes as the standard library has them.
func samples() map[int]string {
	m := map[int]string{}
	for _, w := range lines {
		for _, r := range []int{w.from, w.from + 1, (w.from + w.to) / 2, w.to - 1, w.to} {
			m[r] = string(rune(r))
		}
	}
	return m
}

// noScalars are numbers that are none.
func noScalars() []int {
	l := []int{-1, -2, -0x80, -0x110000, math.MinInt, math.MinInt + 1, math.MinInt32,
		0x110000, 0x110001, 0x1fffff, 0x200000, 1 << 31, 1<<31 - 1, 1 << 32, 1<<32 + 0x61, 1<<53 + 1, 1 << 62, math.MaxInt}
	for r := api.LowHalf; r <= api.HighHalf; r++ {
		l = append(l, r)
	}
	return l
}

// illFormed are texts that no scalar's bytes stand at the beginning of.
func illFormed() []string {
	return []string{
		"\x80", "\xbf", "\x80\x80", "\xc0", "\xc0\x80", "\xc1\xbf", "\xc1\x80",
		"\xc2", "\xc2\x7f", "\xc2\xc0", "\xdf", "\xdf\x7f", "\xdf\xc0", "\xc2\xc2\x80", "\xc2a",
		"\xe0", "\xe0\xa0", "\xe0\x9f\xbf", "\xe0\xc0\x80", "\xe0\xa0\x7f", "\xe0\xa0\xc0", "\xe0\x80\x80",
		"\xe1", "\xe1\x80", "\xe1\x7f\x80", "\xe1\xc0\x80", "\xec\xbf\x7f", "\xec\xbf\xc0",
		"\xed", "\xed\x80", "\xed\x7f\x80", "\xed\xa0\x80", "\xed\xbf\xbf", "\xed\x9f\x7f", "\xed\x9f\xc0",
		"\xee\x7f\x80", "\xee\xc0\x80", "\xee\x80", "\xef\xbf", "\xef\xbf\x7f", "\xef\xbf\xc0",
		"\xf0", "\xf0\x90", "\xf0\x90\x80", "\xf0\x8f\xbf\xbf", "\xf0\xc0\x80\x80", "\xf0\x90\x7f\x80", "\xf0\x90\xc0\x80", "\xf0\x90\x80\x7f", "\xf0\x90\x80\xc0",
		"\xf1\x7f\x80\x80", "\xf1\xc0\x80\x80", "\xf3\xbf\xbf", "\xf3\xbf\xbf\x7f", "\xf3\xbf\xbf\xc0",
		"\xf4\x7f\x80\x80", "\xf4\x90\x80\x80", "\xf4\x8f\xbf", "\xf4\x8f\xbf\xc0",
		"\xf5", "\xf5\x80\x80\x80", "\xf7\xbf\xbf\xbf", "\xf8\x88\x80\x80\x80", "\xfe", "\xff", "\xff\xff\xff\xff",
	}
}

// P1.1: all scalars in all rows, counted through by the table, to and fro.
func TestEveryScalarHasTheBytesOfItsRow(t *testing.T) {
	n := 0
	for _, w := range lines {
		b := w.least()
		for r := w.from; ; r++ {
			s, e := scalar.Encode(r)
			if s != string(b) || e != api.OK || !scalar.Right(r) {
				t.Fatalf("Encode(%x) = %x, %d, wanted %x", r, s, e, b)
			}
			if x, k, ok := scalar.Decode(s); x != r || k != len(b) || !ok {
				t.Fatalf("Decode(%x) = %x, %d, %v", s, x, k, ok)
			}
			n++
			if !w.count(b) {
				if r != w.to {
					t.Fatalf("the row of %x ends at %x, not at %x", w.from, r, w.to)
				}
				break
			}
		}
	}
	if n != api.MaxScalar+1-(api.HighHalf-api.LowHalf+1) {
		t.Errorf("%d scalars", n)
	}
}

// P1.1: the document's examples, and the ends of the rows written by hand.
func TestEncodeByHand(t *testing.T) {
	for _, c := range []struct {
		r int
		s string
	}{
		{0xe9, "\xc3\xa9"}, {0x20ac, "\xe2\x82\xac"}, {0x1f600, "\xf0\x9f\x98\x80"},
		{0x0, "\x00"}, {'a', "a"}, {0x7f, "\x7f"},
		{0x80, "\xc2\x80"}, {0x7ff, "\xdf\xbf"},
		{0x800, "\xe0\xa0\x80"}, {0xfff, "\xe0\xbf\xbf"},
		{0x1000, "\xe1\x80\x80"}, {0xcfff, "\xec\xbf\xbf"},
		{0xd000, "\xed\x80\x80"}, {0xd7ff, "\xed\x9f\xbf"},
		{0xe000, "\xee\x80\x80"}, {0xfffd, "\xef\xbf\xbd"}, {0xffff, "\xef\xbf\xbf"},
		{0x10000, "\xf0\x90\x80\x80"}, {0x3ffff, "\xf0\xbf\xbf\xbf"},
		{0x40000, "\xf1\x80\x80\x80"}, {0xfffff, "\xf3\xbf\xbf\xbf"},
		{0x100000, "\xf4\x80\x80\x80"}, {0x10ffff, "\xf4\x8f\xbf\xbf"},
	} {
		if s, e := scalar.Encode(c.r); s != c.s || e != api.OK {
			t.Errorf("Encode(%x) = %x, %d", c.r, s, e)
		}
		if r, n, ok := scalar.Decode(c.s); r != c.r || n != len(c.s) || !ok {
			t.Errorf("Decode(%x) = %x, %d, %v", c.s, r, n, ok)
		}
		if !scalar.Right(c.r) {
			t.Errorf("Right(%x) is false", c.r)
		}
	}
}

// P1.1, P1.2: numbers that are no scalars, by all calls that take some.
func TestNumbersThatAreNoScalars(t *testing.T) {
	for _, r := range noScalars() {
		if scalar.Right(r) {
			t.Errorf("Right(%x)", r)
		}
		if s, e := scalar.Encode(r); s != "" || e != api.ErrScalar {
			t.Errorf("Encode(%x) = %x, %d", r, s, e)
		}
		for _, l := range [][]int{{r}, {r, 'a'}, {'a', r}, {0x20ac, r, 0x1f600}, {r, r}} {
			if s, e := scalar.Text(l); s != "" || e != api.ErrScalar {
				t.Errorf("Text(%x) = %x, %d", l, s, e)
			}
		}
	}
}

// P1.1: what stands behind the first scalar's bytes is not looked at.
func TestDecodeLooksAtTheBeginningAlone(t *testing.T) {
	for r, s := range samples() {
		for _, more := range []string{"", "a", "\x00", "\x80", "\xbf\xbf\xbf", "\xff", "\xc2", "é", s, strings.Repeat("z", 1000)} {
			if x, n, ok := scalar.Decode(s + more); x != r || n != len(s) || !ok {
				t.Errorf("Decode(%x) = %x, %d, %v", s+more, x, n, ok)
			}
		}
	}
}

// wantNone asks that s begins with no scalar, and is ill-formed.
func wantNone(t *testing.T, s string) {
	t.Helper()
	if r, n, ok := scalar.Decode(s); r != 0 || n != 0 || ok {
		t.Errorf("Decode(%x) = %x, %d, %v", s, r, n, ok)
	}
	wantIllFormed(t, s)
}

func wantIllFormed(t *testing.T, s string) {
	t.Helper()
	if scalar.Valid(s) {
		t.Errorf("Valid(%x)", s)
	}
	if l, e := scalar.Scalars(s); len(l) != 0 || e != api.ErrUtf {
		t.Errorf("Scalars(%x) = %x, %d", s, l, e)
	}
}

// P1.1, P1.2: bytes that are no scalar's, alone, and ahead of, behind and between others.
func TestIllFormedBytes(t *testing.T) {
	for _, s := range illFormed() {
		wantNone(t, s)
		wantNone(t, s+"a")
		for _, whole := range []string{"a", "\x00", "é", "€", "😀", strings.Repeat("é", 300)} {
			wantIllFormed(t, whole+s)
			wantIllFormed(t, whole+s+whole)
		}
	}
}

// P1.1, P1.2: every scalar's bytes, cut off.
func TestCutOffBytes(t *testing.T) {
	for _, w := range lines {
		b := w.least()
		for more := true; more; more = w.count(b) {
			for n := 1; n < len(b); n++ {
				s := string(b[:n])
				if r, k, ok := scalar.Decode(s); r != 0 || k != 0 || ok || scalar.Valid(s) || scalar.Valid("a"+s) {
					t.Fatalf("%x: Decode = %x, %d, %v", s, r, k, ok)
				}
			}
		}
	}
}

// P1.1: the bytes next to each row's ends, at each place of it.
func TestBytesNextToTheEndsOfRows(t *testing.T) {
	for _, w := range lines {
		for i, p := range w.bytes {
			for _, x := range []int{int(p.low) - 1, int(p.low), int(p.high), int(p.high) + 1} {
				if x < 0 || x > 0xff {
					continue
				}
				b := w.least()
				b[i] = byte(x)
				s := string(b)
				if _, n, ok := scalar.Decode(s); n != begins(s) || ok != (n > 0) {
					t.Errorf("Decode(%x): %d bytes, %v, wanted %d", s, n, ok, begins(s))
				}
			}
		}
	}
}

// edges are the bytes at which some row turns, and those next to them.
var edges = []byte{0x00, 0x01, 'a', 0x7e, 0x7f, 0x80, 0x81, 0x8e, 0x8f, 0x90, 0x91, 0x9e, 0x9f, 0xa0, 0xa1, 0xbe, 0xbf, 0xc0, 0xc1, 0xc2, 0xc3, 0xde, 0xdf,
	0xe0, 0xe1, 0xe2, 0xeb, 0xec, 0xed, 0xee, 0xef, 0xf0, 0xf1, 0xf2, 0xf3, 0xf4, 0xf5, 0xf6, 0xf8, 0xfc, 0xfe, 0xff}

// wantAsTable asks that s is what the table, and the standard library, say.
func wantAsTable(t *testing.T, s string) {
	want, n := utf8.DecodeRuneInString(s)
	if want == utf8.RuneError && n <= 1 {
		want, n = 0, 0
	}
	if n != begins(s) {
		t.Fatalf("%x: the table says %d bytes, the library %d", s, begins(s), n)
	}
	if r, k, ok := scalar.Decode(s); r != int(want) || k != n || ok != (n > 0) {
		t.Fatalf("Decode(%x) = %x, %d, %v", s, r, k, ok)
	}
	if scalar.Valid(s) != utf8.ValidString(s) {
		t.Fatalf("Valid(%x) = %v", s, scalar.Valid(s))
	}
}

// P1.1, P1.2: all texts of at most two bytes, and all of three and of four of the bytes at the edges.
func TestShortTexts(t *testing.T) {
	wantAsTable(t, "")
	for a := range 256 {
		wantAsTable(t, string([]byte{byte(a)}))
		for b := range 256 {
			wantAsTable(t, string([]byte{byte(a), byte(b)}))
		}
	}
	few := []byte{'a', 0x7f, 0x80, 0xbf, 0xc0}
	for _, a := range edges {
		for _, b := range edges {
			for _, c := range edges {
				wantAsTable(t, string([]byte{a, b, c}))
				for _, d := range few {
					wantAsTable(t, string([]byte{a, b, c, d}))
				}
			}
		}
	}
}

// P1.2: ordinary texts, to and fro.
func TestTextsAndTheirScalars(t *testing.T) {
	for _, c := range []struct {
		s string
		l []int
	}{
		{"a", []int{'a'}},
		{"\x00", []int{0}},
		{"aé€😀", []int{'a', 0xe9, 0x20ac, 0x1f600}},
		{"😀€éa", []int{0x1f600, 0x20ac, 0xe9, 'a'}},
		{"aa\naa", []int{'a', 'a', 0xa, 'a', 'a'}},
		{"a\u0301b", []int{'a', 0x301, 'b'}},
		{"\xef\xbf\xbd", []int{api.Mended}},
		{"\xed\x9f\xbf\xee\x80\x80", []int{0xd7ff, 0xe000}},
		{"\x7f\xc2\x80\xdf\xbf\xe0\xa0\x80", []int{0x7f, 0x80, 0x7ff, 0x800}},
		{"\xef\xbf\xbf\xf0\x90\x80\x80\xf4\x8f\xbf\xbf", []int{0xffff, 0x10000, 0x10ffff}},
	} {
		if !scalar.Valid(c.s) {
			t.Errorf("Valid(%x) is false", c.s)
		}
		if l, e := scalar.Scalars(c.s); !slices.Equal(l, c.l) || e != api.OK {
			t.Errorf("Scalars(%x) = %x, %d", c.s, l, e)
		}
		if s, e := scalar.Text(c.l); s != c.s || e != api.OK {
			t.Errorf("Text(%x) = %x, %d", c.l, s, e)
		}
	}
}

// P1.2, R3: nothing at all is well-formed, and nil and empty lists are one.
func TestNothing(t *testing.T) {
	if !scalar.Valid("") {
		t.Error("Valid")
	}
	if l, e := scalar.Scalars(""); len(l) != 0 || e != api.OK {
		t.Error(l, e)
	}
	for _, l := range [][]int{nil, {}, make([]int, 0, 5)} {
		if s, e := scalar.Text(l); s != "" || e != api.OK {
			t.Error(s, e)
		}
	}
	if r, n, ok := scalar.Decode(""); r != 0 || n != 0 || ok {
		t.Error(r, n, ok)
	}
}

// P1.3: no two scalars have the same bytes, and a text of two is those of the one and of the other.
func TestScalarsAndBytesAreOneToOne(t *testing.T) {
	seen := map[string]int{}
	for r := range samples() {
		s, _ := scalar.Encode(r)
		if x, ok := seen[s]; ok {
			t.Errorf("%x and %x are both %x", x, r, s)
		}
		seen[s] = r
	}
	for s, r := range seen {
		for z, x := range seen {
			if both, e := scalar.Text([]int{r, x}); both != s+z || e != api.OK {
				t.Fatalf("Text(%x, %x) = %x, %d", r, x, both, e)
			}
			if l, e := scalar.Scalars(s + z); !slices.Equal(l, []int{r, x}) || e != api.OK {
				t.Fatalf("Scalars(%x) = %x, %d", s+z, l, e)
			}
		}
	}
}

// P1.3: a text is well-formed just if its scalars' text is it.
func TestWellFormedIsWhatItsScalarsMake(t *testing.T) {
	texts := append(illFormed(), "a", "aé€😀", "\x00\x00", "\xed\x9f\xbf", "a\xff", "\xffa", "é\x80", "\xe2\x82a")
	for _, s := range texts {
		l, e := scalar.Scalars(s)
		made, f := scalar.Text(l)
		if f != api.OK || (made == s) != scalar.Valid(s) || (e == api.OK) != scalar.Valid(s) {
			t.Errorf("%x: %v, %d, made %x, %d", s, scalar.Valid(s), e, made, f)
		}
	}
}

// R3: a list that is handed in stays as it is, its spare room too, and is not kept.
func TestTextLeavesItsListAlone(t *testing.T) {
	room := []int{'a', 0x20ac, 7, 8, 9}
	s, _ := scalar.Text(room[:2])
	if _, e := scalar.Text([]int{'a', -1}[:2]); e != api.ErrScalar {
		t.Error(e)
	}
	if !slices.Equal(room, []int{'a', 0x20ac, 7, 8, 9}) {
		t.Error(room)
	}
	room[0], room[1] = 'z', 'z'
	if s != "a€" {
		t.Errorf("%x", s)
	}
	if s, _ = scalar.Text(room[:2]); s != "zz" {
		t.Errorf("%x", s)
	}
}

// R3, R4: lists that are answered are new, their spare room too; the same question has the same answer.
func TestScalarsAreNewEachTime(t *testing.T) {
	want := []int{'a', 0xe9, 0x20ac}
	a, _ := scalar.Scalars("aé€")
	b, _ := scalar.Scalars("aé€")
	for i := range a[:cap(a)] {
		a[:cap(a)][i] = -1
	}
	if c, e := scalar.Scalars("aé€"); !slices.Equal(b, want) || !slices.Equal(c, want) || e != api.OK {
		t.Error(b, c, e)
	}
	scalar.Scalars("\xff")
	scalar.Decode("\xe2\x82")
	if r, n, ok := scalar.Decode("€"); r != 0x20ac || n != 3 || !ok {
		t.Error(r, n, ok)
	}
}

// R1, R5: long texts end, well-formed or wrong at the very end.
func TestLongTexts(t *testing.T) {
	const times = 200000
	s := strings.Repeat("aé€😀", times)
	l, e := scalar.Scalars(s)
	if len(l) != 4*times || e != api.OK || !scalar.Valid(s) {
		t.Fatal(len(l), e)
	}
	if made, f := scalar.Text(l); made != s || f != api.OK {
		t.Error(len(made), f)
	}
	wantIllFormed(t, s+"\xf0\x9f\x98")
	if made, f := scalar.Text(append(l, api.LowHalf)); made != "" || f != api.ErrScalar {
		t.Error(len(made), f)
	}
}
