package pattern_test

import (
	"math"
	"slices"
	"testing"

	"virama/api"
	"virama/pattern"
)

// The document's words, written out again, one way of fitting behind the other.

// in tells whether a number is a class, and in a set.
func in(set int64, c int) bool {
	return c >= 0 && c < 32 && set/int64(math.Pow(2, float64(c)))%2 == 1
}

// allIn tells whether each number of a list is in a set.
func allIn(set int64, l []int) bool {
	for _, c := range l {
		if !in(set, c) {
			return false
		}
	}
	return true
}

// fit tells whether all of a list fit items, by each number of them that the first item may have.
func fit(items []api.Item, l []int) bool {
	if len(items) == 0 {
		return len(l) == 0
	}
	x := items[0]
	for n := range len(l) + 1 {
		if x.How == 0 && n != 1 || x.How == 2 && n%2 == 1 {
			continue
		}
		if allIn(x.Set, l[:n]) && fit(items[1:], l[n:]) {
			return true
		}
	}
	return false
}

// fitBehind tells whether a pattern fits behind a place of a list.
func fitBehind(p api.Pattern, l []int, at int) bool {
	if at < 0 || at > len(l) {
		return false
	}
	for from := range at + 1 {
		if fit(p.Items, l[from:at]) && (!p.Start || from == 0) {
			return true
		}
	}
	return false
}

// fitAhead tells whether a pattern fits ahead of a place of a list.
func fitAhead(p api.Pattern, l []int, at int) bool {
	if at < 0 || at > len(l) {
		return false
	}
	for to := at; to <= len(l); to++ {
		if fit(p.Items, l[at:to]) && (!p.Start || at == 0) {
			return true
		}
	}
	return false
}

// itemsOf are all items of some sets.
func itemsOf(sets ...int64) []api.Item {
	var l []api.Item
	for _, set := range sets {
		for how := range 3 {
			l = append(l, api.Item{Set: set, How: how})
		}
	}
	return l
}

// rowsOf are all lists of up to n of some things.
func rowsOf[T any](n int, things ...T) [][]T {
	rows := [][]T{nil}
	for i := 0; i < len(rows); i++ {
		if len(rows[i]) == n {
			continue
		}
		for _, x := range things {
			rows = append(rows, append(slices.Clone(rows[i]), x))
		}
	}
	return rows
}

// both are a pattern of these items, and one with Start.
func both(items ...api.Item) []api.Pattern {
	return []api.Pattern{{Items: items}, {Start: true, Items: items}}
}

// wantFits asks whether a list fits a pattern as the document's words say, all of it, and at each place, and others.
func wantFits(t *testing.T, p api.Pattern, l []int) {
	t.Helper()
	if want := fit(p.Items, l); pattern.Fits(p, l) != want {
		t.Fatalf("Fits(%v, %v) = %v", p, l, !want)
	}
	for at := -2; at < len(l)+3; at++ {
		if want := fitBehind(p, l, at); pattern.Behind(p, l, at) != want {
			t.Fatalf("Behind(%v, %v, %d) = %v", p, l, at, !want)
		}
		if want := fitAhead(p, l, at); pattern.Ahead(p, l, at) != want {
			t.Fatalf("Ahead(%v, %v, %d) = %v", p, l, at, !want)
		}
	}
}

// wantNone asks that nothing fits a pattern that is not right.
func wantNone(t *testing.T, p api.Pattern, l []int) {
	t.Helper()
	if pattern.Fits(p, l) {
		t.Fatalf("Fits(%v, %v)", p, l)
	}
	for at := -2; at < len(l)+3; at++ {
		if pattern.Behind(p, l, at) || pattern.Ahead(p, l, at) {
			t.Fatalf("Behind or Ahead(%v, %v, %d)", p, l, at)
		}
	}
}

// oddNumbers are no classes.
func oddNumbers() []int {
	l := []int{-1, -2, -31, -32, -33, -64, 32, 33, 34, 63, 64, 65, 127, 128, 256}
	return append(l, 1<<31, 1<<32, 1<<32+1, -1<<32, math.MaxInt, math.MaxInt-1, math.MinInt, math.MinInt+1)
}

// wrongSets are right of no number of classes.
func wrongSets() []int64 {
	return []int64{-1, -2, 1 << 32, 1<<32 + 1, 1 << 33, 1 << 62, -1 << 31, -1 << 32, math.MaxInt64, math.MinInt64, math.MinInt64 + 1}
}

// oddHows are no ways in which items stand.
func oddHows() []int {
	return []int{-1, -2, -3, 3, 4, 5, 32, 256, 1 << 32, 1<<32 + 1, math.MaxInt, math.MinInt, math.MinInt + 1}
}

// P9.1: which patterns are right of how many names.
func TestRight(t *testing.T) {
	for n := -70; n < 70; n++ {
		ok := n >= 1 && n <= 32
		for _, p := range both() {
			if pattern.Right(p, n) != ok {
				t.Error(p, n)
			}
		}
		for i := range 63 {
			for _, set := range []int64{1<<i - 1, 1 << i, 1<<i + 1} {
				want := ok && set < int64(1)<<max(0, n%64)
				for how := range 3 {
					first := api.Item{Set: set, How: how}
					for _, p := range append(both(first), both(api.Item{}, api.Item{How: 2}, first)...) {
						if pattern.Right(p, n) != want {
							t.Fatalf("Right(%v, %d) = %v", p, n, !want)
						}
					}
				}
			}
		}
	}
	for _, n := range []int{math.MinInt, math.MinInt + 1, math.MaxInt, 1 << 32, 1<<32 + 1, 1<<32 + 32, -1 << 32} {
		if pattern.Right(api.Pattern{}, n) {
			t.Error(n)
		}
	}
}

// P9.1: what is wrong with an item, at each place, and too many of them.
func TestWrongItems(t *testing.T) {
	var wrong []api.Item
	for _, set := range wrongSets() {
		for how := range 3 {
			wrong = append(wrong, api.Item{Set: set, How: how})
		}
	}
	for _, how := range oddHows() {
		wrong = append(wrong, api.Item{Set: 1, How: how}, api.Item{How: how}, api.Item{Set: -1, How: how})
	}
	for k := 1; k <= 10; k++ {
		for i := range k {
			items := make([]api.Item, k)
			for j := range items {
				items[j] = api.Item{Set: 3, How: 1}
			}
			for _, x := range wrong {
				items[i] = x
				for _, p := range both(items...) {
					if pattern.Right(p, 32) {
						t.Fatal(p)
					}
					wantNone(t, p, nil)
					wantNone(t, p, []int{0, 1})
				}
			}
		}
	}
	for k := range 40 {
		items := make([]api.Item, k)
		for i := range items {
			items[i] = api.Item{Set: 1, How: 1}
		}
		for _, p := range both(items...) {
			if pattern.Right(p, 1) != (k <= 10) || pattern.Right(p, 32) != (k <= 10) {
				t.Error(k)
			}
			if pattern.Fits(p, []int{0, 0}) != (k > 0 && k <= 10) {
				t.Error(k)
			}
			if k > 10 {
				wantNone(t, p, nil)
				wantNone(t, p, []int{0, 0})
			}
		}
	}
}

// P9.1: what fits by hand.
func TestFitsByHand(t *testing.T) {
	for _, x := range []struct {
		text                string
		l                   []int
		at                  int
		fits, behind, ahead bool
	}{
		{"A B*", []int{0, 1, 1}, 3, true, true, false},
		{"A B*", []int{0, 1, 1}, 2, true, true, false},
		{"A B*", []int{0, 1, 1}, 0, true, false, true},
		{"^ A** A", []int{0, 0}, 2, false, false, false},
		{"^ A** A", []int{0, 0, 0}, 3, true, true, false},
		{"^ A** A", []int{0, 0, 0}, 1, true, true, false},
		{"^ A** A", []int{0, 0, 0}, 2, true, false, false},
		{"^ A** A", []int{0, 0, 0}, 0, true, false, true},
		{"A** A", []int{0, 0}, 2, false, true, false},
		// Start does not matter to all of a list.
		{"^ A", []int{0}, 1, true, true, false},
		{"^ A", []int{1, 0}, 2, false, false, false},
		{"^ A", []int{0, 0}, 1, false, true, false},
		// An empty pattern fits nothing at all, everywhere.
		{"", nil, 0, true, true, true},
		{"", []int{0, 1}, 0, false, true, true},
		{"", []int{0, 1}, 1, false, true, true},
		{"", []int{0, 1}, 2, false, true, true},
		{"^", nil, 0, true, true, true},
		{"^", []int{0, 1}, 0, false, true, true},
		{"^", []int{0, 1}, 1, false, false, false},
		// Past the ends there is no place.
		{"", []int{0}, 2, false, false, false},
		{"", []int{0}, -1, false, false, false},
		{"A*", nil, 1, true, false, false},
		// Numbers that are no class are in no set, be it of all classes.
		{".", []int{3}, 1, false, false, false},
		{".", []int{-1}, 1, false, false, false},
		{".*", []int{0, -1, 1}, 3, false, true, true},
		{"^ .*", []int{0, -1, 1}, 3, false, false, false},
		{"^ .*", []int{0, -1, 1}, 1, false, true, false},
		// Pairs are not of the same class.
		{"[A B]**", []int{0, 1, 1, 0}, 4, true, true, true},
		{"B [A B]** A", []int{1, 0, 0}, 3, false, false, false},
		{"B [A B]** A", []int{1, 0, 1, 0}, 4, true, true, false},
		{"A** B** C**", []int{0, 0, 1, 1, 2, 2}, 6, true, true, true},
		{"A** B** C**", []int{0, 0, 1, 2, 2}, 5, false, true, true},
		{"^ A** B** C**", []int{0, 0, 1, 2, 2}, 5, false, false, false},
	} {
		p, e := pattern.Parse(x.text, []string{"A", "B", "C"})
		if e != api.OK {
			t.Fatal(x.text, e)
		}
		fits, behind, ahead := pattern.Fits(p, x.l), pattern.Behind(p, x.l, x.at), pattern.Ahead(p, x.l, x.at)
		if fits != x.fits || behind != x.behind || ahead != x.ahead {
			t.Errorf("%q, %v, %d: %v, %v, %v", x.text, x.l, x.at, fits, behind, ahead)
		}
	}
}

// P9.1: all patterns of up to two items, and some of three, on all short lists.
func TestAllSmallPatterns(t *testing.T) {
	short := rowsOf(4, 0, 1, 2, -1)
	for _, items := range rowsOf(2, itemsOf(0, 1, 2, 3, 6)...) {
		for _, p := range both(items...) {
			for _, l := range short {
				wantFits(t, p, l)
			}
		}
	}
	long := rowsOf(6, 0, 1)
	for _, items := range rowsOf(3, itemsOf(1, 2, 3)...) {
		if len(items) < 3 {
			continue
		}
		for _, p := range both(items...) {
			for _, l := range long {
				wantFits(t, p, l)
			}
		}
	}
}

// mixed are k numbers below n, mixed by a seed.
func mixed(seed, k, n int) []int {
	l := make([]int, k)
	x := uint32(seed)*2654435761 + 12345
	for i := range l {
		x = x*1664525 + 1013904223
		l[i] = int(x>>10) % n
	}
	return l
}

// P9.1: patterns of up to ten items, of any three classes of the 32, on lists of these and of a number that is none.
func TestLongPatterns(t *testing.T) {
	classes := []int{0, 15, 31}
	odd := oddNumbers()
	for seed := range 3000 {
		r := mixed(seed, 40, 1<<20)
		var items []api.Item
		for i := range 3 + r[0]%8 {
			set := int64(0)
			for j, c := range classes {
				set += int64(r[i+1]>>j&1) << c
			}
			items = append(items, api.Item{Set: set, How: r[i+11] % 3})
		}
		l := make([]int, r[21]%9)
		for i := range l {
			l[i] = classes[r[i+22]%3]
			if r[i+22]%29 == 0 {
				l[i] = odd[r[i+30]%len(odd)]
			}
		}
		for _, p := range both(items...) {
			wantFits(t, p, l)
		}
	}
}

// P9.1: each class, and each number that is none, in sets of one class, and of all but one.
func TestEachClass(t *testing.T) {
	numbers := oddNumbers()
	for c := range 32 {
		numbers = append(numbers, c)
	}
	for _, c := range numbers {
		for d := range 32 {
			for _, set := range []int64{1 << d, 1<<32 - 1 - 1<<d} {
				want := c >= 0 && c < 32 && (c == d) == (set == 1<<d)
				p := api.Pattern{Items: []api.Item{{Set: set}}}
				l := []int{c}
				if pattern.Fits(p, l) != want || pattern.Behind(p, l, 1) != want || pattern.Ahead(p, l, 0) != want {
					t.Fatal(c, d, set)
				}
			}
		}
	}
}

// P9.1: places that a list has not, whatever the pattern.
func TestPlaces(t *testing.T) {
	places := append(oddNumbers(), 4, 5)
	for _, items := range rowsOf(2, itemsOf(0, 1)...) {
		for _, p := range both(items...) {
			for _, at := range places {
				l := []int{0, 0, 0}
				if pattern.Behind(p, l, at) || pattern.Ahead(p, l, at) {
					t.Fatal(p, at)
				}
				// Nor does the spare room of a list have any.
				room := make([]int, 3, 300)
				if pattern.Behind(p, room, at) || pattern.Ahead(p, room, at) {
					t.Fatal(p, at)
				}
			}
		}
	}
}

// R1: lists that are long end soon, though ten items may share them in very many ways.
func TestLongLists(t *testing.T) {
	l := make([]int, 1<<18)
	for how := 1; how <= 2; how++ {
		items := make([]api.Item, 10)
		for i := range items {
			items[i] = api.Item{Set: 1, How: how}
		}
		p := api.Pattern{Start: true, Items: items}
		if !pattern.Fits(p, l) || !pattern.Behind(p, l, len(l)) || !pattern.Ahead(p, l, 0) {
			t.Error(how)
		}
		if pattern.Fits(p, l[1:]) != (how == 1) || pattern.Behind(p, l, len(l)-1) != (how == 1) {
			t.Error(how)
		}
		items[9] = api.Item{Set: 2}
		if pattern.Fits(p, l) || pattern.Behind(p, l, len(l)) || pattern.Ahead(p, l, 0) {
			t.Error(how)
		}
	}
	// Behind and ahead of each place, of what is near it alone.
	near := api.Pattern{Items: []api.Item{{Set: 2, How: 1}, {Set: 1, How: 2}, {Set: 1}}}
	for at := range len(l) + 1 {
		if pattern.Behind(near, l, at) != (at > 0) || pattern.Ahead(near, l, at) != (at < len(l)) {
			t.Fatal(at)
		}
	}
}

// P9.1: Same, of any patterns, right or not.
func TestSame(t *testing.T) {
	var all []api.Pattern
	odd := []api.Item{{Set: -1, How: 3}, {Set: 1 << 40, How: math.MinInt}}
	for _, items := range rowsOf(2, append(itemsOf(0, 1, 3), odd...)...) {
		all = append(all, both(items...)...)
	}
	many := make([]api.Item, 20)
	all = append(all, both(many...)...)
	for i, a := range all {
		for j, b := range all {
			c := api.Pattern{Start: b.Start, Items: slices.Clone(b.Items)}
			if pattern.Same(a, c) != (i == j) {
				t.Fatal(a, c)
			}
		}
	}
	// R3: nil and empty are one.
	if !pattern.Same(api.Pattern{}, api.Pattern{Items: []api.Item{}}) || !pattern.Same(api.Pattern{Items: []api.Item{}}, api.Pattern{}) {
		t.Error("nil")
	}
	if !pattern.Right(api.Pattern{Items: []api.Item{}}, 1) || !pattern.Fits(api.Pattern{Items: []api.Item{}}, []int{}) {
		t.Error("nil")
	}
}

// P9.3: what fits behind at the end fits whole, from some place on.
func TestBehindAtTheEnd(t *testing.T) {
	for _, items := range rowsOf(2, itemsOf(1, 3)...) {
		p := api.Pattern{Items: items}
		for _, l := range rowsOf(5, 0, 1) {
			some := false
			for from := range len(l) + 1 {
				some = some || pattern.Fits(p, l[from:])
			}
			if pattern.Behind(p, l, len(l)) != some {
				t.Fatal(p, l)
			}
		}
	}
}

// R3: what is handed in stays, spare room too.
func TestNothingIsWritten(t *testing.T) {
	room := []api.Item{{Set: 1}, {Set: 2, How: 1}, {Set: 1, How: 2}, {Set: 9}, {Set: 8}}
	numbers := []int{0, 1, 1, 0, 0, 7, 8}
	items, list := slices.Clone(room), slices.Clone(numbers)
	for _, p := range both(items[:3]...) {
		for at := range 6 {
			pattern.Behind(p, list[:5], at)
			pattern.Ahead(p, list[:5], at)
		}
		pattern.Fits(p, list[:5])
		pattern.Right(p, 2)
		pattern.Same(p, p)
		pattern.Print(p, []string{"A", "B"})
	}
	if !slices.Equal(room, items) || !slices.Equal(numbers, list) {
		t.Error(items, list)
	}
}
