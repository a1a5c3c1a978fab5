package mend_test

import (
	"math"
	"slices"
	"strings"
	"sync"
	"testing"
	"unicode/utf8"

	"virama/api"
	"virama/mend"
	"virama/scalar"
)

// x is what a bad unit becomes.
const x = "\xef\xbf\xbd"

// part is a unit, as the document's words have it.
type part struct {
	from, to int
	good     bool
}

// heads are all that some scalar's bytes begin with, but the whole of them, written by the standard library.
var heads = sync.OnceValue(func() map[string]bool {
	m := map[string]bool{}
	for r := rune(0); r <= utf8.MaxRune; r++ {
		if !utf8.ValidRune(r) {
			continue
		}
		s := string(r)
		for n := 1; n < len(s); n++ {
			m[s[:n]] = true
		}
	}
	return m
})

// first is how many bytes the first unit of s has, and whether they are a scalar's.
func first(s string) (int, bool) {
	if r, n := utf8.DecodeRuneInString(s); r != utf8.RuneError || n > 1 {
		return n, true
	}
	for n := min(len(s), utf8.UTFMax); n > 1; n-- {
		if heads()[s[:n]] {
			return n, false
		}
	}
	return 1, false
}

func parts(s string) []part {
	var l []part
	for at := 0; at < len(s); {
		n, good := first(s[at:])
		l = append(l, part{at, at + n, good})
		at += n
	}
	return l
}

// wanted are the places of the parts, s mended, and how many parts are bad.
func wanted(s string, l []part) ([]int, string, int) {
	var places []int
	var b strings.Builder
	bad := 0
	for _, p := range l {
		places = append(places, p.from)
		if p.good {
			b.WriteString(s[p.from:p.to])
		} else {
			b.WriteString(x)
			bad++
		}
	}
	return append(places, len(s)), b.String(), bad
}

// wantParts asks every function of s, at every place of it and beside it.
func wantParts(t *testing.T, s string, l []part) {
	t.Helper()
	places, whole, bad := wanted(s, l)
	if u := mend.Units(s); !slices.Equal(u, places) {
		t.Fatalf("Units(%x) = %v, wanted %v", s, u, places)
	}
	if r := mend.Repair(s); r != whole {
		t.Fatalf("Repair(%x) = %x, wanted %x", s, r, whole)
	}
	if n := mend.Bad(s); n != bad {
		t.Fatalf("Bad(%x) = %d, wanted %d", s, n, bad)
	}
	var one part
	if len(l) > 0 {
		one = l[0]
	}
	if n, ok := mend.Unit(s); n != one.to || ok != one.good {
		t.Fatalf("Unit(%x) = %d, %v, wanted %d, %v", s, n, ok, one.to, one.good)
	}
	wantPlaces(t, s, l)
}

// wantPlaces asks Next and Back at every place from two ahead of s up to two behind it.
func wantPlaces(t *testing.T, s string, l []part) {
	t.Helper()
	for at := -2; at <= len(s)+2; at++ {
		to, from := 0, 0
		e, f := api.ErrPlace, api.ErrPlace
		for _, p := range l {
			if p.from == at {
				to, e = p.to, api.OK
			}
			if p.to == at {
				from, f = p.from, api.OK
			}
		}
		if n, g := mend.Next(s, at); n != to || g != e {
			t.Fatalf("Next(%x, %d) = %d, %d, wanted %d, %d", s, at, n, g, to, e)
		}
		if n, g := mend.Back(s, at); n != from || g != f {
			t.Fatalf("Back(%x, %d) = %d, %d, wanted %d, %d", s, at, n, g, from, f)
		}
	}
}

// byHand are texts with their units' lengths, a bad one's below 0.
var byHand = []struct {
	s     string
	sizes []int
}{
	{"", nil},
	{"a", []int{1}},
	{"\x00", []int{1}},
	{"a€", []int{1, 3}},
	{"aé€😀z", []int{1, 2, 3, 4, 1}},
	{x, []int{3}},
	{x + x, []int{3, 3}},
	// the document's examples
	{"a\xe2\x82a", []int{1, -2, 1}},
	{"\xed\xa0\x80", []int{-1, -1, -1}},
	// cut off
	{"\xc2", []int{-1}},
	{"\xdf", []int{-1}},
	{"\xe0", []int{-1}},
	{"\xe0\xa0", []int{-2}},
	{"\xed\x9f", []int{-2}},
	{"\xef\xbf", []int{-2}},
	{"\xf0", []int{-1}},
	{"\xf0\x90", []int{-2}},
	{"\xf0\x9f\x98", []int{-3}},
	{"\xf3\xbf\xbf", []int{-3}},
	{"\xf4\x8f\xbf", []int{-3}},
	// cut off by what comes next
	{"\xc2a", []int{-1, 1}},
	{"\xc2\xc2\x80", []int{-1, 2}},
	{"\xe1\x80\xc2\x80", []int{-2, 2}},
	{"\xf0\x9f\x98a", []int{-3, 1}},
	{"\xf0\x9f\x98é", []int{-3, 2}},
	{"\xf0\x9f\x98😀", []int{-3, 4}},
	{"\xf0\x9f\x98\xf0\x9f\x98", []int{-3, -3}},
	{"\xe2\x82\xe2\x82\xe2\x82\xac", []int{-2, -2, 3}},
	{"\xf1\x80\x80\xe1\x80\xc2b", []int{-3, -2, -1, 1}},
	// second bytes that others have, but not this row
	{"\xe0\x9f\xbf", []int{-1, -1, -1}},
	{"\xe0\x80\x80", []int{-1, -1, -1}},
	{"\xed\xbf\xbf", []int{-1, -1, -1}},
	{"\xf0\x8f\xbf\xbf", []int{-1, -1, -1, -1}},
	{"\xf4\x90\x80\x80", []int{-1, -1, -1, -1}},
	// bytes that no scalar's begin with
	{"\x80", []int{-1}},
	{"\xbf\xbf", []int{-1, -1}},
	{"\xc0\x80", []int{-1, -1}},
	{"\xc1\xbf", []int{-1, -1}},
	{"\xf5\x80\x80\x80", []int{-1, -1, -1, -1}},
	{"\xf8\x88\x80\x80\x80", []int{-1, -1, -1, -1, -1}},
	{"\xff\xfe", []int{-1, -1}},
	// more bytes behind than the scalar has
	{"a\x80\x80\x80\x80\x80", []int{1, -1, -1, -1, -1, -1}},
	{"é\x80", []int{2, -1}},
	{"€\x80\x80\x80", []int{3, -1, -1, -1}},
	{"😀\x80\x80\x80\x80a", []int{4, -1, -1, -1, -1, 1}},
	{"\xc2\x80\x80", []int{2, -1}},
}

// P2.1, P2.2: units counted by hand.
func TestUnitsByHand(t *testing.T) {
	for _, c := range byHand {
		var l []part
		at := 0
		for _, n := range c.sizes {
			p := part{at, at + max(n, -n), n > 0}
			l = append(l, p)
			at = p.to
		}
		if at != len(c.s) {
			t.Fatalf("%x has not the lengths %v", c.s, c.sizes)
		}
		if !slices.Equal(parts(c.s), l) {
			t.Fatalf("%x has by the words %v, by hand %v", c.s, parts(c.s), l)
		}
		wantParts(t, c.s, l)
	}
}

// each goes through all texts of n of these bytes.
func each(n int, bytes []byte, do func(string)) {
	b := make([]byte, n)
	var fill func(int)
	fill = func(i int) {
		if i == n {
			do(string(b))
			return
		}
		for _, y := range bytes {
			b[i] = y
			fill(i + 1)
		}
	}
	fill(0)
}

// edges are the bytes at which some row of the table turns, and those next to them.
var edges = []byte{0x00, 'a', 0x7f, 0x80, 0x8f, 0x90, 0x9f, 0xa0, 0xbf, 0xc0, 0xc1, 0xc2, 0xdf,
	0xe0, 0xe1, 0xec, 0xed, 0xee, 0xef, 0xf0, 0xf1, 0xf3, 0xf4, 0xf5, 0xff}

// P2.1, P2.2: all texts of at most two bytes, all of three at the edges, and longer ones of fewer bytes, by the document's words.
func TestShortTexts(t *testing.T) {
	ask := func(s string) { wantParts(t, s, parts(s)) }
	all := make([]byte, 256)
	for i := range all {
		all[i] = byte(i)
	}
	ask("")
	each(1, all, ask)
	each(2, all, ask)
	each(3, edges, ask)
	each(4, []byte{'a', 0x80, 0x90, 0xa0, 0xc2, 0xe0, 0xed, 0xf0, 0xf4, 0xff}, ask)
	each(6, []byte{'a', 0x80, 0xbf, 0xe1, 0xf1}, ask)
}

// P2.1, P2.2: every byte that a scalar's may begin with, up to every cut, with every byte behind.
func TestBeginningsWithEveryByteBehind(t *testing.T) {
	for _, s := range []string{"\xc2\x80", "\xdf\xbf", "\xe0\xa0\x80", "\xe1\x80\xbf", "\xec\xbf\x80", "\xed\x9f\xbf", "\xef\xbf\xbf",
		"\xf0\x90\x80\x80", "\xf0\xbf\xbf\xbf", "\xf1\x80\x80\x80", "\xf3\xbf\xbf\xbf", "\xf4\x80\x80\x80", "\xf4\x8f\xbf\xbf"} {
		for n := range len(s) + 1 {
			for b := range 256 {
				for _, more := range []string{"", "a", "\x80", "\xbf\xbf", "€"} {
					y := s[:n] + string([]byte{byte(b)}) + more
					wantParts(t, y, parts(y))
				}
			}
		}
	}
}

// P2.1: the first unit alone, of every scalar and of every scalar's bytes cut off.
func TestUnitOfEveryScalar(t *testing.T) {
	for r := rune(0); r <= utf8.MaxRune; r++ {
		if !utf8.ValidRune(r) {
			continue
		}
		s := string(r)
		if n, ok := mend.Unit(s + "\x80z"); n != len(s) || !ok {
			t.Fatalf("Unit of %x: %d, %v", s, n, ok)
		}
		for k := 1; k < len(s); k++ {
			if n, ok := mend.Unit(s[:k]); n != k || ok {
				t.Fatalf("Unit(%x) = %d, %v", s[:k], n, ok)
			}
			if n, ok := mend.Unit(s[:k] + "a"); n != k || ok {
				t.Fatalf("Unit(%xa) = %d, %v", s[:k], n, ok)
			}
		}
	}
}

// P2.2: places where no unit begins or ends: within one, at the ends, and beyond them.
func TestPlacesThatAreNone(t *testing.T) {
	far := []int{-1, -4, math.MinInt, math.MinInt + 1, math.MinInt32, math.MaxInt, math.MaxInt - 1, math.MaxInt32, 1 << 32}
	for _, c := range []struct {
		s      string
		within []int
	}{
		{"", []int{0, 1, 2}},
		{"a", []int{2, 3, 4, 5}},
		{"a€b", []int{2, 3, 6, 9}},
		{"😀", []int{1, 2, 3, 5}},
		{"a\xf0\x9f\x98a", []int{2, 3, 6}},
		{"\x80\x80\x80\x80\xe2\x82", []int{5, 7}},
	} {
		for _, at := range slices.Concat(far, c.within) {
			if n, e := mend.Next(c.s, at); n != 0 || e != api.ErrPlace {
				t.Errorf("Next(%x, %d) = %d, %d", c.s, at, n, e)
			}
			if n, e := mend.Back(c.s, at); n != 0 || e != api.ErrPlace {
				t.Errorf("Back(%x, %d) = %d, %d", c.s, at, n, e)
			}
		}
		if n, e := mend.Next(c.s, len(c.s)); n != 0 || e != api.ErrPlace {
			t.Errorf("Next(%x, its end) = %d, %d", c.s, n, e)
		}
		if n, e := mend.Back(c.s, 0); n != 0 || e != api.ErrPlace {
			t.Errorf("Back(%x, 0) = %d, %d", c.s, n, e)
		}
	}
}

// long makes texts of bytes at the edges, the same ones each time.
func long(n int, state uint32) string {
	b := make([]byte, n)
	for i := range b {
		state = state*1664525 + 1013904223
		b[i] = edges[int(state>>16)%len(edges)]
	}
	return string(b)
}

// P2.1, P2.2: long texts of all kinds of units, one behind the other.
func TestMixedTexts(t *testing.T) {
	for n := range 40 {
		s := long(10*n, uint32(n))
		wantParts(t, s, parts(s))
	}
	var b strings.Builder
	for _, c := range byHand {
		b.WriteString(c.s)
	}
	wantParts(t, b.String(), parts(b.String()))
}

// P2.3: what is mended is well-formed and has no bad unit, what is well-formed stays, mended twice is mended once.
func TestMendedIsWellFormedAndStays(t *testing.T) {
	ask := func(s string) {
		once := mend.Repair(s)
		if !scalar.Valid(once) || !utf8.ValidString(once) || mend.Bad(once) != 0 {
			t.Fatalf("Repair(%x) = %x", s, once)
		}
		if mend.Repair(once) != once {
			t.Fatalf("%x, mended twice, is %x", s, mend.Repair(once))
		}
		if (once == s) != scalar.Valid(s) || (mend.Bad(s) == 0) != scalar.Valid(s) {
			t.Fatalf("%x is well-formed: %v, mended: %x, bad: %d", s, scalar.Valid(s), once, mend.Bad(s))
		}
		if len(mend.Units(once)) != len(mend.Units(s)) {
			t.Fatalf("%x: %v, mended: %v", s, mend.Units(s), mend.Units(once))
		}
	}
	for _, c := range byHand {
		ask(c.s)
	}
	each(3, edges, ask)
	for n := range 40 {
		ask(long(25*n, uint32(100+n)))
	}
}

// P2.3: one forth and one back is where one was, and one back and one forth.
func TestForthAndBack(t *testing.T) {
	for n := range 40 {
		s := long(25*n, uint32(200+n))
		l := mend.Units(s)
		for i := 0; i+1 < len(l); i++ {
			to, e := mend.Next(s, l[i])
			from, f := mend.Back(s, to)
			if e != api.OK || f != api.OK || to != l[i+1] || from != l[i] {
				t.Fatalf("%x: from %d to %d (%d), and back to %d (%d)", s, l[i], to, e, from, f)
			}
		}
	}
}

// R3, R4: the list is new each time, its spare room too.
func TestUnitsAreNewEachTime(t *testing.T) {
	want := []int{0, 1, 3, 4}
	a := mend.Units("a\xe2\x82a")
	b := mend.Units("a\xe2\x82a")
	for i := range a[:cap(a)] {
		a[:cap(a)][i] = -1
	}
	if c := mend.Units("a\xe2\x82a"); !slices.Equal(b, want) || !slices.Equal(c, want) {
		t.Error(b, c)
	}
	mend.Next("\xff", 7)
	if n, e := mend.Next("a\xe2\x82a", 1); n != 3 || e != api.OK {
		t.Error(n, e)
	}
}

// R1, R5: long texts end, and a place far within one is found at once.
func TestLongTexts(t *testing.T) {
	const times = 100000
	piece := "aé€😀\xf0\x9f\x98\xff"
	s := strings.Repeat(piece, times)
	if n := mend.Bad(s); n != 2*times {
		t.Error(n)
	}
	if r := mend.Repair(s); r != strings.Repeat("aé€😀"+x+x, times) {
		t.Error(len(r))
	}
	l := mend.Units(s)
	if len(l) != 6*times+1 || l[len(l)-1] != len(s) {
		t.Fatal(len(l))
	}
	for i := 0; i+1 < len(l); i++ {
		to, e := mend.Next(s, l[i])
		if from, f := mend.Back(s, l[i+1]); to != l[i+1] || e != api.OK || from != l[i] || f != api.OK {
			t.Fatal(i, to, e, from, f)
		}
	}
	tails := strings.Repeat("\x80", 10*times)
	if n := mend.Bad(tails); n != 10*times {
		t.Error(n)
	}
	for _, at := range []int{0, 1, 2, 3, 4, 5, len(tails) - 1} {
		if to, e := mend.Next(tails, at); to != at+1 || e != api.OK {
			t.Error(at, to, e)
		}
	}
}
