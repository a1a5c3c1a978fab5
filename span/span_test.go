package span_test

import (
	"math"
	"slices"
	"testing"

	"virama/api"
	"virama/span"
)

// rg is a range.
func rg(from, to, value int) api.Range {
	return api.Range{From: from, To: to, Value: value}
}

// The document's words, written out again.

func rightRange(x api.Range) bool {
	return x.From >= 0 && x.From <= x.To && x.To <= 0x10ffff && x.Value >= 0 && x.Value <= 31
}

func isMap(l []api.Range) bool {
	for i, x := range l {
		if !rightRange(x) || i > 0 && x.From <= l[i-1].To {
			return false
		}
	}
	return len(l) <= 600
}

// none is what is said of a number of which nothing is.
const none = -1

// saidOf is what the first of the ranges says of r that has it.
func saidOf(l []api.Range, r int) int {
	for _, x := range l {
		if r >= x.From && r <= x.To {
			return x.Value
		}
	}
	return none
}

// lapping is the place of the first range that has a number that one ahead of it has, -1 if there is none.
func lapping(l []api.Range) int {
	for i, x := range l {
		for _, y := range l[:i] {
			if max(x.From, y.From) <= min(x.To, y.To) {
				return i
			}
		}
	}
	return -1
}

// sortedOf is what the document's words say that Sort answers.
func sortedOf(l []api.Range) ([]api.Range, int, api.Errno) {
	for i, x := range l {
		if !rightRange(x) {
			return nil, i, api.ErrRange
		}
	}
	if len(l) > 600 {
		return nil, 600, api.ErrRange
	}
	if i := lapping(l); i >= 0 {
		return nil, i, api.ErrLap
	}
	m := slices.Clone(l)
	slices.SortFunc(m, func(x, y api.Range) int { return x.From - y.From })
	return m, 0, api.OK
}

// drawn is the tight map that says what said says of the numbers from low to high, number by number.
func drawn(low, high int, said func(r int) int) []api.Range {
	var l []api.Range
	ahead := none
	for r := low; r <= high; r++ {
		v := said(r)
		if v != none && v == ahead {
			l[len(l)-1].To = r
		} else if v != none {
			l = append(l, rg(r, r, v))
		}
		ahead = v
	}
	return l
}

// over is what b says of a number, and, if that is nothing, what a says.
func over(a, b []api.Range) func(int) int {
	return func(r int) int {
		if v := saidOf(b, r); v != none {
			return v
		}
		return saidOf(a, r)
	}
}

func wantSort(t *testing.T, l []api.Range, want []api.Range, place int, e api.Errno) {
	t.Helper()
	if m, n, f := span.Sort(l); !slices.Equal(m, want) || n != place || f != e {
		t.Fatalf("Sort(%.12v) = %.12v, %d, %d, wanted %.12v, %d, %d", l, m, n, f, want, place, e)
	}
}

func wantTight(t *testing.T, l []api.Range, want []api.Range, e api.Errno) {
	t.Helper()
	if m, f := span.Tight(l); !slices.Equal(m, want) || f != e {
		t.Fatalf("Tight(%.12v) = %.12v, %d, wanted %.12v, %d", l, m, f, want, e)
	}
}

func wantOver(t *testing.T, a, b []api.Range, want []api.Range, e api.Errno) {
	t.Helper()
	if m, f := span.Over(a, b); !slices.Equal(m, want) || f != e {
		t.Fatalf("Over(%.12v, %.12v) = %.12v, %d, wanted %.12v, %d", a, b, m, f, want, e)
	}
}

// wantMap asks whether ranges are a map, of all that hangs on it.
func wantMap(t *testing.T, l []api.Range, ok bool) {
	t.Helper()
	if span.Right(l) != ok {
		t.Fatalf("Right(%.12v) = %v", l, !ok)
	}
	count := 0
	for _, x := range l {
		count += x.To - x.From + 1
	}
	if n := span.Count(l); ok && n != count || !ok && n != 0 {
		t.Fatalf("Count(%.12v) = %d, wanted %d, if it is a map: %v", l, n, count, ok)
	}
	if !ok {
		wantTight(t, l, nil, api.ErrRange)
		wantOver(t, l, nil, nil, api.ErrRange)
		wantOver(t, nil, l, nil, api.ErrRange)
		wantOver(t, l, []api.Range{rg(0, api.MaxScalar, 0)}, nil, api.ErrRange)
		wantOver(t, []api.Range{rg(0, 1, 0)}, l, nil, api.ErrRange)
	}
}

// P4.1, P4.2: one range with its ends and its value at, beside and far from what is right.
func TestOneRange(t *testing.T) {
	ends := []int{math.MinInt, math.MinInt + 1, -0x110000, -1, 0, 1, 0xd7ff, 0xd800, 0xdfff, 0xe000, 0xffff, 0x10000,
		0x10fffe, 0x10ffff, 0x110000, 1 << 31, 1 << 32, 1<<32 + 1, math.MaxInt - 1, math.MaxInt}
	values := []int{math.MinInt, -32, -1, 0, 1, 30, 31, 32, 255, 256, 1 << 32, math.MaxInt}
	for _, from := range ends {
		for _, to := range ends {
			for _, v := range values {
				l := []api.Range{rg(from, to, v)}
				ok := rightRange(l[0])
				wantMap(t, l, ok)
				m, n, e := sortedOf(l)
				wantSort(t, l, m, n, e)
				if ok {
					wantTight(t, l, l, api.OK)
					wantOver(t, l, nil, l, api.OK)
					wantOver(t, nil, l, l, api.OK)
				}
				for _, r := range ends {
					want, has := 0, from <= r && r <= to
					if has {
						want = v
					}
					if x, k := span.Find(l, r); x != want || k != has {
						t.Fatalf("Find(%v, %d) = %d, %v", l, r, x, k)
					}
				}
			}
		}
	}
}

// each calls do with each list of n of the ranges.
func each(n int, ranges []api.Range, do func([]api.Range)) {
	l := make([]api.Range, n)
	var lay func(int)
	lay = func(i int) {
		if i == n {
			do(slices.Clone(l))
			return
		}
		for _, x := range ranges {
			l[i] = x
			lay(i + 1)
		}
	}
	lay(0)
}

// small are all ranges of numbers from low to high, some with two values, and the wrong ones of these.
func small(low, high int) []api.Range {
	var l []api.Range
	for from := low; from <= high; from++ {
		for to := low; to <= high; to++ {
			l = append(l, rg(from, to, (from+to)&1))
		}
	}
	return append(l, rg(low, low, 31), rg(low, low, 32), rg(high, high, -1))
}

// P4.1, P4.2: all lists of up to three small ranges, right or not, at the beginning of the numbers and at their end.
func TestSmallLists(t *testing.T) {
	for _, low := range []int{-1, 0x10ffff - 3} {
		for n := range 4 {
			each(n, small(low, low+4), func(l []api.Range) {
				wantMap(t, l, isMap(l))
				m, place, e := sortedOf(l)
				wantSort(t, l, m, place, e)
				for r := low - 1; r <= low+5; r++ {
					want := saidOf(l, r)
					v, ok := span.Find(l, r)
					if has := slices.ContainsFunc(l, func(x api.Range) bool { return x.From <= r && r <= x.To }); ok != has || ok && v != want || !ok && v != 0 {
						t.Fatalf("Find(%v, %d) = %d, %v, wanted %d", l, r, v, ok, want)
					}
				}
			})
		}
	}
}

// mapsOf are all maps of numbers from low to high with values below that one.
func mapsOf(low, high, values int) [][]api.Range {
	all := [][]api.Range{nil}
	for from := low; from <= high; from++ {
		for to := from; to <= high; to++ {
			for v := range values {
				for _, m := range mapsOf(to+1, high, values) {
					all = append(all, append([]api.Range{rg(from, to, v)}, m...))
				}
			}
		}
	}
	return all
}

// P4.2, P4.3: all small maps over all small maps, at the beginning of the numbers and at their end.
func TestSmallMapsOver(t *testing.T) {
	for _, low := range []int{0, 0x10ffff - 4} {
		maps := mapsOf(low, low+4, 2)
		if len(maps) < 500 {
			t.Fatalf("only %d maps", len(maps))
		}
		for _, a := range maps {
			wantMap(t, a, true)
			wantSort(t, a, a, 0, api.OK)
			wantTight(t, a, drawn(low-1, low+5, over(nil, a)), api.OK)
		}
		for _, a := range maps {
			for _, b := range maps {
				want := drawn(low-1, low+5, over(a, b))
				wantOver(t, a, b, want, api.OK)
			}
		}
	}
}

// dots are n ranges of one number each, with one between each two.
func dots(n, value int) []api.Range {
	l := make([]api.Range, n)
	for i := range l {
		l[i] = rg(2*i, 2*i, value)
	}
	return l
}

// P4.1, P4.2: how many ranges a map has.
func TestSoManyRanges(t *testing.T) {
	for _, n := range []int{599, 600} {
		l := dots(n, 7)
		wantMap(t, l, true)
		wantSort(t, l, l, 0, api.OK)
		wantTight(t, l, l, api.OK)
		wantOver(t, l, nil, l, api.OK)
		wantOver(t, nil, l, l, api.OK)
		wantOver(t, l, l, l, api.OK)
	}
	for _, n := range []int{601, 602, 1200, 100000} {
		l := dots(n, 7)
		wantMap(t, l, false)
		wantSort(t, l, nil, 600, api.ErrRange)
	}
}

// P4.2: what of several wrong things is told.
func TestWhatIsWrongFirst(t *testing.T) {
	wrongAt := func(n int, places ...int) []api.Range {
		l := dots(n, 0)
		for _, i := range places {
			l[i].Value = 32
		}
		return l
	}
	wantSort(t, wrongAt(600, 599), nil, 599, api.ErrRange)
	wantSort(t, wrongAt(601, 600), nil, 600, api.ErrRange)
	wantSort(t, wrongAt(700, 650), nil, 650, api.ErrRange)
	wantSort(t, wrongAt(700, 699, 10), nil, 10, api.ErrRange)
	wantSort(t, wrongAt(700, 699), nil, 699, api.ErrRange)
	lap := dots(601, 0)
	lap[1] = lap[0]
	wantSort(t, lap, nil, 600, api.ErrRange)
	wantSort(t, lap[:600], nil, 1, api.ErrLap)
	lap[599].To--
	wantSort(t, lap[:600], nil, 599, api.ErrRange)
	wantSort(t, []api.Range{rg(0, 1, 0), rg(1, 2, 0), rg(5, 4, 0)}, nil, 2, api.ErrRange)
	wantSort(t, []api.Range{rg(0, 1, 0), rg(7, 8, 0), rg(1, 2, 0), rg(7, 7, 0)}, nil, 2, api.ErrLap)
	wantSort(t, []api.Range{rg(7, 8, 0), rg(0, 1, 0), rg(0, 20, 0), rg(7, 7, 0)}, nil, 2, api.ErrLap)
	wantSort(t, []api.Range{rg(0, 20, 0), rg(7, 7, 0), rg(3, 3, 0)}, nil, 1, api.ErrLap)
	wantSort(t, []api.Range{rg(3, 3, 5), rg(3, 3, 5)}, nil, 1, api.ErrLap)
}

// P4.2: many ranges in another order, apart and side by side.
func TestSortOfMany(t *testing.T) {
	for _, step := range []int{1, 3} {
		var want []api.Range
		for i := range 600 {
			want = append(want, rg(10*i, 10*i+11-step-1, i%32))
		}
		for _, turn := range []int{1, 7, 599, 391} {
			l := make([]api.Range, 600)
			for i := range l {
				l[i] = want[(i*turn+turn)%600]
			}
			wantSort(t, l, want, 0, api.OK)
			wantMap(t, l, turn == 1 && l[0].From == 0)
			for _, at := range []int{1, 300, 599} {
				m := slices.Clone(l)
				m[at].From, m[at].To = m[0].To, m[0].To
				wantSort(t, m, nil, at, api.ErrLap)
			}
		}
	}
}

// P4.2: what is laid over makes too many ranges, or just not.
func TestOverTooMany(t *testing.T) {
	far := []api.Range{rg(0x10000, 0x10000, 7)}
	wantOver(t, dots(599, 7), far, append(dots(599, 7), far...), api.OK)
	wantOver(t, far, dots(599, 7), append(dots(599, 7), far...), api.OK)
	wantOver(t, dots(600, 7), far, nil, api.ErrRange)
	wantOver(t, far, dots(600, 7), nil, api.ErrRange)
	// A number between two others joins them, or parts what was one.
	wantOver(t, dots(600, 7), []api.Range{rg(1, 1, 7)}, append([]api.Range{rg(0, 2, 7)}, dots(600, 7)[2:]...), api.OK)
	wantOver(t, dots(600, 7), []api.Range{rg(1, 1, 8)}, nil, api.ErrRange)
	wantOver(t, dots(600, 7), []api.Range{rg(0, 2, 8)}, append([]api.Range{rg(0, 2, 8)}, dots(600, 7)[2:]...), api.OK)
	// More than 600 on the way, and few in the end; and as many as there can be.
	all := []api.Range{rg(0, 0x10ffff, 7)}
	wantOver(t, dots(600, 7), all, all, api.OK)
	wantOver(t, all, dots(600, 7), all, api.OK)
	wantOver(t, all, dots(600, 8), nil, api.ErrRange)
	part := drawn(0, 2*299+1, over(all, dots(300, 8)))
	part[len(part)-1].To = 0x10ffff
	wantOver(t, all, dots(300, 8), part, api.OK)
	wantOver(t, all, dots(301, 8), nil, api.ErrRange)
	between := dots(600, 7)
	for i := range between {
		between[i].From++
		between[i].To++
	}
	wantOver(t, dots(600, 7), between, []api.Range{rg(0, 1199, 7)}, api.OK)
	wantOver(t, dots(600, 8), between, nil, api.ErrRange)
	wantOver(t, dots(300, 8), between[:300], drawn(0, 599, over(dots(300, 8), between)), api.OK)
	wantOver(t, dots(301, 8), between[:300], nil, api.ErrRange)
}

// P4.2, P4.3: tight maps of those that are and those that are not.
func TestTight(t *testing.T) {
	wantTight(t, nil, nil, api.OK)
	wantTight(t, []api.Range{}, nil, api.OK)
	wantTight(t, []api.Range{rg(0, 0, 1), rg(1, 1, 1)}, []api.Range{rg(0, 1, 1)}, api.OK)
	wantTight(t, []api.Range{rg(0, 0, 1), rg(1, 1, 2)}, []api.Range{rg(0, 0, 1), rg(1, 1, 2)}, api.OK)
	wantTight(t, []api.Range{rg(0, 0, 1), rg(2, 2, 1)}, []api.Range{rg(0, 0, 1), rg(2, 2, 1)}, api.OK)
	wantTight(t, []api.Range{rg(0, 0, 0), rg(1, 1, 0)}, []api.Range{rg(0, 1, 0)}, api.OK)
	wantTight(t, []api.Range{rg(0, 4, 1), rg(5, 0x10fffe, 1), rg(0x10ffff, 0x10ffff, 1)}, []api.Range{rg(0, 0x10ffff, 1)}, api.OK)
	wantTight(t, []api.Range{rg(0xd7ff, 0xd7ff, 1), rg(0xd800, 0xdfff, 1), rg(0xe000, 0xe000, 2)}, []api.Range{rg(0xd7ff, 0xdfff, 1), rg(0xe000, 0xe000, 2)}, api.OK)
	wantTight(t, []api.Range{rg(1, 1, 1), rg(0, 0, 1)}, nil, api.ErrRange)
	var steps []api.Range
	for i := range 600 {
		steps = append(steps, rg(3*i, 3*i+2, i/2%32))
	}
	wantTight(t, steps, drawn(0, 1800, over(nil, steps)), api.OK)
}

// P4.2: the document's example, and others by hand.
func TestOver(t *testing.T) {
	a := []api.Range{rg(0, 9, 1)}
	wantOver(t, a, []api.Range{rg(3, 4, 2)}, []api.Range{rg(0, 2, 1), rg(3, 4, 2), rg(5, 9, 1)}, api.OK)
	wantOver(t, []api.Range{rg(3, 4, 2)}, a, a, api.OK)
	wantOver(t, a, []api.Range{rg(0, 0, 0)}, []api.Range{rg(0, 0, 0), rg(1, 9, 1)}, api.OK)
	wantOver(t, a, []api.Range{rg(9, 9, 0)}, []api.Range{rg(0, 8, 1), rg(9, 9, 0)}, api.OK)
	wantOver(t, a, []api.Range{rg(10, 10, 1)}, []api.Range{rg(0, 10, 1)}, api.OK)
	wantOver(t, a, []api.Range{rg(11, 11, 1)}, []api.Range{rg(0, 9, 1), rg(11, 11, 1)}, api.OK)
	wantOver(t, []api.Range{rg(0, 1, 1), rg(2, 3, 1)}, nil, []api.Range{rg(0, 3, 1)}, api.OK)
	wantOver(t, nil, []api.Range{rg(0, 1, 1), rg(2, 3, 1)}, []api.Range{rg(0, 3, 1)}, api.OK)
	wantOver(t, []api.Range{rg(5, 5, 31), rg(8, 8, 30)}, []api.Range{rg(6, 7, 31), rg(0x10ffff, 0x10ffff, 31)},
		[]api.Range{rg(5, 7, 31), rg(8, 8, 30), rg(0x10ffff, 0x10ffff, 31)}, api.OK)
	wantOver(t, nil, []api.Range{}, nil, api.OK)
}

// P4.1: the first of any ranges, whatever else is wrong with them.
func TestFindInAnyRanges(t *testing.T) {
	l := []api.Range{rg(5, 4, 1), rg(-9, -3, -7), rg(4, 6, 100), rg(0, 9, 3), rg(math.MinInt, math.MaxInt, 8)}
	for r, want := range map[int]int{5: 100, 4: 100, 6: 100, 7: 3, 0: 3, 9: 3, -1: 8, 10: 8, -3: -7, -9: -7, -10: 8, -2: 8, math.MinInt: 8, math.MaxInt: 8} {
		if v, ok := span.Find(l, r); v != want || !ok {
			t.Errorf("Find of %d: %d, %v, wanted %d", r, v, ok, want)
		}
	}
	for _, r := range []int{math.MinInt, -1, 0, math.MaxInt} {
		if v, ok := span.Find(nil, r); v != 0 || ok {
			t.Errorf("Find of %d in none: %d, %v", r, v, ok)
		}
	}
	many := dots(5000, 3)
	many[4999].Value = -4
	for r, want := range map[int]int{0: 3, 2: 3, 2 * 4998: 3, 2 * 4999: -4} {
		if v, ok := span.Find(many, r); v != want || !ok {
			t.Errorf("Find of %d in many: %d, %v", r, v, ok)
		}
	}
}

// P4.1: of how many numbers something is said.
func TestCount(t *testing.T) {
	for _, c := range []struct {
		l    []api.Range
		want int
	}{
		{nil, 0},
		{[]api.Range{}, 0},
		{[]api.Range{rg(0, 0, 0)}, 1},
		{[]api.Range{rg(0, 0x10ffff, 0)}, 0x110000},
		{[]api.Range{rg(0, 4, 1), rg(5, 0x10ffff, 1)}, 0x110000},
		{[]api.Range{rg(3, 4, 1), rg(9, 9, 2)}, 3},
		{[]api.Range{rg(9, 9, 2), rg(3, 4, 1)}, 0},
		{[]api.Range{rg(3, 4, 1), rg(4, 9, 2)}, 0},
		{dots(600, 1), 600},
		{dots(601, 1), 0},
	} {
		if n := span.Count(c.l); n != c.want {
			t.Errorf("Count(%.12v) = %d, wanted %d", c.l, n, c.want)
		}
	}
}

// P4.1: lists of any ranges, of which each two are not the same, and each is the same as itself.
func TestSame(t *testing.T) {
	lists := [][]api.Range{
		nil,
		{rg(0, 0, 0)},
		{rg(0, 0, 0), rg(0, 0, 0)},
		{rg(1, 0, 0)},
		{rg(0, 1, 0)},
		{rg(0, 0, 1)},
		{rg(-1, 0, 0)},
		{rg(0, -1, 0)},
		{rg(0, 0, -1)},
		{rg(math.MinInt, math.MaxInt, math.MinInt)},
		{rg(math.MinInt, math.MaxInt, math.MaxInt)},
		{rg(0, 3, 1)},
		{rg(0, 1, 1), rg(2, 3, 1)},
		{rg(2, 3, 1), rg(0, 1, 1)},
		{rg(0, 1, 1), rg(2, 3, 1), rg(9, 9, 9)},
		dots(700, 1),
		dots(701, 1),
	}
	for i, a := range lists {
		for j, b := range lists {
			if span.Same(a, slices.Clone(b)) != (i == j) {
				t.Errorf("Same(%.12v, %.12v) = %v", a, b, i != j)
			}
		}
	}
	if !span.Same(nil, []api.Range{}) || !span.Same([]api.Range{}, nil) {
		t.Error("nil and empty")
	}
}

// spare makes a list with room behind it, in which something stands.
func spare(l ...api.Range) []api.Range {
	room := append(slices.Clone(l), rg(-5, -5, -5), rg(-5, -5, -5), rg(-5, -5, -5), rg(-5, -5, -5))
	return room[:len(l)]
}

// R3: what is handed in stays as it is, spare room too; what is answered shares nothing with it, or with another answer.
func TestAnswersAreNew(t *testing.T) {
	calls := map[string]func(a, b []api.Range) []api.Range{
		"Sort":        func(a, b []api.Range) []api.Range { l, _, _ := span.Sort(a); return l },
		"Sort of b":   func(a, b []api.Range) []api.Range { l, _, _ := span.Sort(b); return l },
		"Tight":       func(a, b []api.Range) []api.Range { l, _ := span.Tight(a); return l },
		"Tight of b":  func(a, b []api.Range) []api.Range { l, _ := span.Tight(b); return l },
		"Over":        func(a, b []api.Range) []api.Range { l, _ := span.Over(a, b); return l },
		"Over none":   func(a, b []api.Range) []api.Range { l, _ := span.Over(nil, b); return l },
		"none over":   func(a, b []api.Range) []api.Range { l, _ := span.Over(a, nil); return l },
		"over itself": func(a, b []api.Range) []api.Range { l, _ := span.Over(a, a); return l },
		"nothing else": func(a, b []api.Range) []api.Range {
			span.Right(a)
			span.Find(a, 5)
			span.Count(a)
			span.Same(a, b)
			return slices.Clone(a)
		},
	}
	room := func(l []api.Range) []api.Range { return l[:cap(l)] }
	for name, call := range calls {
		a, b := spare(rg(0, 4, 1), rg(5, 9, 1), rg(20, 30, 2)), spare(rg(3, 5, 3))
		beforeA, beforeB := slices.Clone(room(a)), slices.Clone(room(b))
		first, second := call(a, b), call(a, b)
		want := slices.Clone(first)
		if len(first) == 0 || !slices.Equal(first, second) {
			t.Fatalf("%s: %v, %v", name, first, second)
		}
		for i := range room(first) {
			room(first)[i] = rg(-9, -9, -9)
		}
		if !slices.Equal(room(a), beforeA) || !slices.Equal(room(b), beforeB) || !slices.Equal(second, want) {
			t.Errorf("%s: %v, %v, %v", name, room(a), room(b), second)
		}
		for i := range room(a) {
			room(a)[i] = rg(-7, -7, -7)
		}
		for i := range room(b) {
			room(b)[i] = rg(-7, -7, -7)
		}
		if !slices.Equal(second, want) {
			t.Errorf("%s: kept what was handed in: %v", name, second)
		}
	}
}

// R3: ranges out of order are put in order elsewhere.
func TestSortLeavesItsOrder(t *testing.T) {
	l := spare(rg(9, 9, 1), rg(0, 1, 2), rg(5, 6, 3))
	want := slices.Clone(l[:cap(l)])
	m, _, _ := span.Sort(l)
	if !slices.Equal(m, []api.Range{rg(0, 1, 2), rg(5, 6, 3), rg(9, 9, 1)}) || !slices.Equal(l[:cap(l)], want) {
		t.Error(m, l[:cap(l)])
	}
}
