package seg_test

import (
	"math"
	"slices"
	"strings"
	"testing"

	"virama/api"
	"virama/dfa"
	"virama/rule"
	"virama/seg"
)

// The document's words, written out again, one way of fitting behind the other.

// in tells whether a number is a class, and in a set.
func in(set int64, c int) bool {
	return c >= 0 && c < 32 && set/int64(math.Pow(2, float64(c)))%2 == 1
}

// allIn tells whether each number of a list is in a set.
func allIn(set int64, l []int) bool {
	return !slices.ContainsFunc(l, func(c int) bool { return !in(set, c) })
}

// fit tells whether all of a list fit items, by each number of them that the first item may have.
func fit(items []api.Item, l []int) bool {
	if len(items) == 0 {
		return len(l) == 0
	}
	x := items[0]
	for n := range len(l) + 1 {
		if x.How == 0 && n != 1 || x.How == 2 && n%2 == 1 {
			continue
		}
		if allIn(x.Set, l[:n]) && fit(items[1:], l[n:]) {
			return true
		}
	}
	return false
}

// ahead tells whether items fit from a place on, up to some place.
func ahead(items []api.Item, l []int, at int) bool {
	for to := at; to <= len(l); to++ {
		if fit(items, l[at:to]) {
			return true
		}
	}
	return false
}

// say tells what the first rule says that is in fits, and whose right side is ahead of a place.
func say(rules []api.Rule, fits int64, l []int, at int) bool {
	for _, x := range rules {
		if fits%2 == 1 && ahead(x.Right.Items, l, at) {
			return x.Break
		}
		fits /= 2
	}
	return true
}

// cutsOf are the boundaries by a right machine and right rules.
func cutsOf(rules []api.Rule, m api.Machine, n int, l []int) []int {
	var list []int
	for _, c := range l {
		if c < 0 || c > n-1 {
			c = -1
		}
		list = append(list, c)
	}
	cuts := []int{0}
	state := 0
	for i, c := range list {
		if c == -1 {
			c = n
		}
		state = m.Next[state][c]
		if i+1 == len(l) || say(rules, m.Fits[state], list, i+1) {
			cuts = append(cuts, i+1)
		}
	}
	return cuts
}

// areCuts tells whether they are those of some list of n numbers: 0, some of those between, and n.
func areCuts(cuts []int, n int) bool {
	if n < 0 || len(cuts) == 0 || cuts[0] != 0 || cuts[len(cuts)-1] != n {
		return false
	}
	for i := range cuts {
		for j := range i {
			if cuts[j] >= cuts[i] {
				return false
			}
		}
	}
	return true
}

// partOf is the part of right cuts that a place lies in, -1 of none.
func partOf(cuts []int, at int) int {
	for i := 1; i < len(cuts); i++ {
		if cuts[i-1] <= at && at < cuts[i] {
			return i - 1
		}
	}
	return -1
}

// nextOf is the least of right cuts above a place from 0 on, -1 if there is none.
func nextOf(cuts []int, at int) int {
	next := -1
	for _, c := range cuts {
		if at >= 0 && c > at && (next < 0 || c < next) {
			next = c
		}
	}
	return next
}

// backOf is the greatest of right cuts below a place up to the last one, -1 if there is none.
func backOf(cuts []int, at int) int {
	back := -1
	for _, c := range cuts {
		if at <= cuts[len(cuts)-1] && c < at && c > back {
			back = c
		}
	}
	return back
}

// rowsOf are all lists of up to n of some things.
func rowsOf[T any](n int, things ...T) [][]T {
	rows := [][]T{nil}
	for i := 0; i < len(rows); i++ {
		if len(rows[i]) == n {
			continue
		}
		for _, x := range things {
			rows = append(rows, append(slices.Clone(rows[i]), x))
		}
	}
	return rows
}

// itemsOf are all items of some sets.
func itemsOf(sets ...int64) []api.Item {
	var l []api.Item
	for _, set := range sets {
		for how := range 3 {
			l = append(l, api.Item{Set: set, How: how})
		}
	}
	return l
}

// rulesOf are all rules of these items, up to left and right many at their sides.
func rulesOf(left, right int, items ...api.Item) []api.Rule {
	var l []api.Rule
	for _, a := range rowsOf(left, items...) {
		for _, b := range rowsOf(right, items...) {
			for k := range 4 {
				l = append(l, api.Rule{Left: api.Pattern{Start: k%2 == 1, Items: a}, Right: api.Pattern{Items: b}, Break: k >= 2})
			}
		}
	}
	return l
}

// rightOf is a rule of a place ahead of which these items fit.
func rightOf(is bool, items ...api.Item) api.Rule {
	return api.Rule{Right: api.Pattern{Items: items}, Break: is}
}

// mixed are k numbers below n, mixed by a seed.
func mixed(seed, k, n int) []int {
	l := make([]int, k)
	x := uint32(seed)*2654435761 + 12345
	for i := range l {
		x = x*1664525 + 1013904223
		l[i] = int(x>>8) % n
	}
	return l
}

// picked are some of the rules, as many as there are numbers.
func picked(l []api.Rule, numbers []int) []api.Rule {
	var p []api.Rule
	for _, i := range numbers {
		p = append(p, l[i])
	}
	return p
}

// mixedMachine is a right one of so many states, which knows k rules, mixed by a seed.
func mixedMachine(seed, states, n, k int) api.Machine {
	var m api.Machine
	for i := range states {
		m.Next = append(m.Next, mixed(seed*1000+i, n+1, states))
		var fits int64
		for r, is := range mixed(seed*777+i, k, 2) {
			fits |= int64(is) << r
		}
		m.Fits = append(m.Fits, fits)
	}
	return m
}

// still is a machine of one state, in which these rules fit.
func still(n int, fits int64) api.Machine {
	return api.Machine{Next: [][]int{make([]int, n+1)}, Fits: []int64{fits}}
}

// cloned is a machine in new memory.
func cloned(m api.Machine) api.Machine {
	c := api.Machine{Fits: slices.Clone(m.Fits)}
	for _, row := range m.Next {
		c.Next = append(c.Next, slices.Clone(row))
	}
	return c
}

// oddNumbers are no classes, whatever n is.
func oddNumbers() []int {
	l := []int{-1, -2, -31, -32, -33, -64, 32, 33, 34, 63, 64, 65, 127, 128, 256}
	return append(l, 1<<31, 1<<32, 1<<32+1, -1<<32, math.MaxInt, math.MaxInt-1, math.MinInt, math.MinInt+1)
}

// wantCut asks for the boundaries of a list by a right machine.
func wantCut(t *testing.T, rules []api.Rule, m api.Machine, n int, l []int) {
	t.Helper()
	want := cutsOf(rules, m, n, l)
	cuts, e := seg.Cuts(rules, m, n, l)
	if !slices.Equal(cuts, want) || e != api.OK || !seg.Right(cuts, len(l)) {
		t.Fatalf("Cuts(%v, %v, %d, %v) = %v, %d, wanted %v", rules, m, n, l, cuts, e, want)
	}
}

// wantCompiled asks that rules' own machine cuts a list as the rules do.
func wantCompiled(t *testing.T, rules []api.Rule, m api.Machine, n int, l []int) {
	t.Helper()
	wantCut(t, rules, m, n, l)
	cuts, _ := seg.Cuts(rules, m, n, l)
	if want, e := rule.Cuts(rules, l); !slices.Equal(cuts, want) || e != api.OK {
		t.Fatalf("Cuts(%v, %v, %d, %v) = %v, rules' are %v", rules, m, n, l, cuts, want)
	}
}

// wantNoCuts asks that nothing is cut.
func wantNoCuts(t *testing.T, rules []api.Rule, m api.Machine, n int) {
	t.Helper()
	for _, l := range [][]int{nil, {}, {0}, {0, 0}, {-1, 0, 40}} {
		if cuts, e := seg.Cuts(rules, m, n, l); len(cuts) != 0 || e != api.ErrCut {
			t.Fatalf("Cuts(%v, %v, %d, %v) = %v, %d", rules, m, n, l, cuts, e)
		}
	}
}

// wantAnswer asks for a number, or, if it is below 0, for none.
func wantAnswer(t *testing.T, call func([]int, int) (int, api.Errno), cuts []int, at, want int) {
	t.Helper()
	x, e := call(cuts, at)
	if want < 0 && (x != 0 || e != api.ErrCut) || want >= 0 && (x != want || e != api.OK) {
		t.Fatalf("of %v, %d: %d, %d, wanted %d", cuts, at, x, e, want)
	}
}

// wantParts asks what there is about a place of cuts, right or not.
func wantParts(t *testing.T, cuts []int, at int) {
	t.Helper()
	part, next, back := -1, -1, -1
	if len(cuts) > 0 && areCuts(cuts, cuts[len(cuts)-1]) {
		part, next, back = partOf(cuts, at), nextOf(cuts, at), backOf(cuts, at)
	}
	wantAnswer(t, seg.Part, cuts, at, part)
	wantAnswer(t, seg.Next, cuts, at, next)
	wantAnswer(t, seg.Back, cuts, at, back)
}

// P13.1: cuts by hand, of rules' own machines.
func TestByHand(t *testing.T) {
	names := []string{"CR", "LF", "Extend", "RI", "Other"}
	for _, x := range []struct {
		text string
		l    []int
		want []int
	}{
		{"CR + LF\n. / .\n", []int{0, 1, 1}, []int{0, 2, 3}},
		{"CR + LF\n. / .\n", nil, []int{0}},
		{"CR + LF\n. / .\n", []int{0}, []int{0, 1}},
		{"+\n", []int{0}, []int{0, 1}},
		{"+\n", nil, []int{0}},
		{"", []int{0, 1, 1}, []int{0, 1, 2, 3}},
		{"+\n", []int{0, 1, 1}, []int{0, 3}},
		{"/\n+\n", []int{0, 1, 1}, []int{0, 1, 2, 3}},
		{"+\n/\n", []int{0, 1, 1}, []int{0, 3}},
		{"^ RI** RI + RI\n", []int{3, 3, 3, 3, 3}, []int{0, 2, 4, 5}},
		{"^ RI** RI + RI\n[^RI] RI** RI + RI\n", []int{3, 3, 3, 4, 3, 3, 3}, []int{0, 2, 3, 4, 6, 7}},
		{"^ RI** RI + RI\n[^RI] RI** RI + RI\n", []int{3, 3, 3, -9, 3, 3, 3}, []int{0, 2, 3, 4, 5, 6, 7}},
		{"+ Extend\n", []int{2, 2, 4, 2, 0}, []int{0, 2, 4, 5}},
		{"+ Extend\n", []int{9, 2, -1, 2, 2}, []int{0, 2, 5}},
		{"+ Extend* CR\n", []int{0, 2, 2, 0, 2, 2, 9, 2, 0}, []int{0, 4, 5, 6, 9}},
		{"[^CR]* + LF LF\n", []int{0, 1, 1, 1}, []int{0, 3, 4}},
	} {
		rules, _, e := rule.Parse(x.text, names)
		m, f := dfa.Compile(rules, 5)
		if e != api.OK || f != api.OK {
			t.Fatal(x.text, e, f)
		}
		if cuts, e := seg.Cuts(rules, m, 5, x.l); !slices.Equal(cuts, x.want) || e != api.OK {
			t.Errorf("Cuts of %q, %v: %v, %d, wanted %v", x.text, x.l, cuts, e, x.want)
		}
		wantCompiled(t, rules, m, 5, x.l)
	}
}

// P13.1: the machine says which left sides fit, whatever they are, and the right sides are looked for in the list.
func TestOtherMachines(t *testing.T) {
	rules, _, _ := rule.Parse("A +\nB / B\n[] +\n^ A A + A\n", []string{"A", "B"})
	if len(rules) != 4 {
		t.Fatal(rules)
	}
	for _, x := range []struct {
		fits int64
		want []int
	}{
		{0, []int{0, 1, 2, 3, 4}},
		{1, []int{0, 4}},
		{2, []int{0, 1, 2, 3, 4}},
		{4, []int{0, 4}},
		{6, []int{0, 2, 4}},
		{8, []int{0, 2, 4}},
		{7, []int{0, 4}},
	} {
		l := []int{0, 0, 1, 0}
		if cuts, e := seg.Cuts(rules, still(2, x.fits), 2, l); !slices.Equal(cuts, x.want) || e != api.OK {
			t.Errorf("Cuts by %d: %v, %d, wanted %v", x.fits, cuts, e, x.want)
		}
		wantCut(t, rules, still(2, x.fits), 2, l)
	}
	// States by turns: a place is behind as many numbers as it says.
	m := api.Machine{Next: [][]int{{1, 1, 1}, {2, 2, 0}, {0, 1, 2}}, Fits: []int64{1, 0, 4}}
	if cuts, e := seg.Cuts(rules, m, 2, []int{0, 1, 0, 0, -1, 1, 9, 1}); !slices.Equal(cuts, []int{0, 1, 4, 6, 8}) || e != api.OK {
		t.Error(cuts, e)
	}
	for _, l := range rowsOf(5, 0, 1, 2) {
		wantCut(t, rules, m, 2, l)
	}
}

// P13.1, P13.3: all rules of few items, one alone, by their own machines, numbers that are no classes in lists.
func TestOneRule(t *testing.T) {
	lists := rowsOf(3, 0, 1, -1, 2)
	lists = append(lists, []int{0, 0, 0, 0, 0, 0}, []int{0, 1, 0, 1, 0, 1}, []int{1, 0, 0, 0, 0, 0, 1})
	for _, x := range append(rulesOf(2, 1, itemsOf(1, 3)...), rulesOf(1, 2, itemsOf(1, 2, 3)...)...) {
		rules := []api.Rule{x}
		for n := 2; n <= 3; n++ {
			m, e := dfa.Compile(rules, n)
			if e != api.OK {
				t.Fatal(rules, e)
			}
			for _, l := range lists {
				wantCompiled(t, rules, m, n, l)
			}
		}
	}
}

// P13.1, P13.3: of several rules the first one that counts says it.
func TestRules(t *testing.T) {
	all := rulesOf(2, 2, itemsOf(1, 2, 6)...)
	for seed := range 4000 {
		rules := picked(all, mixed(seed, seed%7, len(all)))
		m, e := dfa.Compile(rules, 3)
		if e != api.OK {
			t.Fatal(rules, e)
		}
		wantCompiled(t, rules, m, 3, mixed(seed+1, seed%13, 4))
	}
}

// P13.1: machines that are right, but not the rules' own.
func TestMixedMachines(t *testing.T) {
	all := rulesOf(1, 2, itemsOf(1, 2, 5, 7)...)
	for seed := range 4000 {
		rules := picked(all, mixed(seed, seed%9, len(all)))
		m := mixedMachine(seed, 1+seed%5, 3, len(rules))
		wantCut(t, rules, m, 3, mixed(seed+1, seed%15, 5))
	}
	wantCut(t, all[:40], mixedMachine(1, 300, 32, 40), 32, mixed(2, 200, 34))
}

// P13.1: of how many classes there are, from 1 to 32, a number past the last one is none.
func TestClasses(t *testing.T) {
	for n := 1; n <= 32; n++ {
		whole := api.Item{Set: 1<<n - 1}
		rules := []api.Rule{rightOf(false, whole), {Left: api.Pattern{Items: []api.Item{whole}}}}
		m, e := dfa.Compile(rules, n)
		if e != api.OK {
			t.Fatal(n, e)
		}
		for _, c := range append(oddNumbers(), 0, 1, n-1, n, n+1) {
			for _, l := range [][]int{{c, c}, {c, c, 0}, {0, c, c, n - 1}, {c, 0, c, n, 0, 0}} {
				wantCut(t, rules, m, n, l)
				wantCut(t, rules, still(n, 1), n, l)
			}
		}
		two := []api.Rule{rightOf(false, api.Item{Set: 1 << (n - 1)})}
		if cuts, e := seg.Cuts(two, still(n, 1), n, []int{n - 1, n - 1, n, n, n - 1}); !slices.Equal(cuts, []int{0, 2, 3, 5}) || e != api.OK {
			t.Error(n, cuts, e)
		}
	}
}

// P13.1: forty rules have a digit each, and the first one counts.
func TestManyRules(t *testing.T) {
	for k := 1; k <= 40; k++ {
		rules := make([]api.Rule, k)
		for i := range rules {
			rules[i] = rightOf(true, api.Item{Set: 1})
			rules[i].Break = false
			for _, fits := range []int64{1 << i, 1<<k - 1<<i, 1<<k - 1, 1<<i - 1} {
				if fits != 0 {
					wantCut(t, rules, still(2, fits), 2, []int{0, 0, 1, 0})
				}
			}
			rules[i].Break = true
		}
		for i := range rules {
			rules[i].Break = false
			if cuts, _ := seg.Cuts(rules, still(2, 1<<k-1<<i), 2, []int{0, 0, 0}); !slices.Equal(cuts, []int{0, 3}) {
				t.Error(k, i, cuts)
			}
			rules[i].Break = true
			if cuts, _ := seg.Cuts(rules, still(2, 1<<k-1<<i), 2, []int{0, 0, 0}); !slices.Equal(cuts, []int{0, 1, 2, 3}) {
				t.Error(k, i, cuts)
			}
		}
	}
}

// P13.1: rules that are wrong, each at each place among right ones, and too many.
func TestWrongRules(t *testing.T) {
	right := []api.Item{{Set: 1}, {Set: 0, How: 1}}
	wrong := []api.Rule{
		{Right: api.Pattern{Start: true}},
		{Left: api.Pattern{Items: make([]api.Item, 11)}},
		{Right: api.Pattern{Items: make([]api.Item, 11)}},
	}
	for _, x := range []api.Item{{Set: -1}, {Set: 4}, {Set: 1 << 32}, {Set: math.MinInt64}, {How: -1}, {How: 3}} {
		p := api.Pattern{Items: append(slices.Clone(right), x)}
		wrong = append(wrong, api.Rule{Left: p}, api.Rule{Right: p})
	}
	for _, x := range wrong {
		for k := range 4 {
			for at := range k + 1 {
				wantNoCuts(t, slices.Insert(make([]api.Rule, k), at, x), still(2, 0), 2)
			}
		}
	}
	for _, k := range []int{41, 42, 64, 80, 256} {
		wantNoCuts(t, make([]api.Rule, k), still(2, 0), 2)
	}
	wantCut(t, make([]api.Rule, 40), still(2, 0), 2, []int{0, 0})
}

// P13.1: machines that are not right, in reach or not.
func TestWrongMachines(t *testing.T) {
	rules := make([]api.Rule, 3)
	m := mixedMachine(4, 5, 3, 3)
	wantCut(t, rules, m, 3, []int{0, 1, 2, 3})
	for i := range m.Next {
		for c := range m.Next[i] {
			for _, to := range []int{-1, 5, 1 << 32, math.MinInt} {
				x := cloned(m)
				x.Next[i][c] = to
				wantNoCuts(t, rules, x, 3)
			}
		}
		x := cloned(m)
		x.Next[i] = x.Next[i][:3]
		wantNoCuts(t, rules, x, 3)
		x.Next[i] = append(x.Next[i], 0, 0)
		wantNoCuts(t, rules, x, 3)
	}
	for _, x := range []api.Machine{{}, {Next: m.Next}, {Fits: m.Fits}, {Next: m.Next[:4], Fits: m.Fits}, {Next: m.Next, Fits: m.Fits[:4]}} {
		wantNoCuts(t, rules, x, 3)
		wantNoCuts(t, nil, x, 3)
	}
	for n := -3; n < 36; n++ {
		if n != 3 {
			wantNoCuts(t, rules, m, n)
			wantNoCuts(t, nil, api.Machine{Next: m.Next, Fits: make([]int64, 5)}, n)
		}
	}
	for _, n := range []int{0, 33, 64} {
		wantNoCuts(t, nil, still(n, 0), n)
	}
	for _, n := range []int{math.MinInt, -1, 1 << 32, 1<<32 + 3, math.MaxInt} {
		wantNoCuts(t, nil, m, n)
	}
}

// P13.1: a machine whose Fits have a rule that is not there, in reach or not.
func TestRulesThatAreNotThere(t *testing.T) {
	for k := range 41 {
		rules := make([]api.Rule, k)
		for i := range 3 {
			m := mixedMachine(k, 3, 2, k)
			for c := range m.Next {
				m.Next[c] = []int{0, 0, 0}
			}
			for r := range 63 {
				m.Fits[i] = 1 << r
				if r < k {
					wantCut(t, rules, m, 2, []int{0, 1, 1, -5})
				} else {
					wantNoCuts(t, rules, m, 2)
				}
			}
			m.Fits[i] = 1<<k - 1
			wantCut(t, rules, m, 2, []int{0, 1, 1, -5})
			for _, fits := range []int64{1 << k, 1<<k + 1, -1, math.MaxInt64, math.MinInt64, -1 << k} {
				m.Fits[i] = fits
				wantNoCuts(t, rules, m, 2)
			}
		}
	}
}

// P13.1: which cuts are a list's.
func TestRight(t *testing.T) {
	for _, cuts := range rowsOf(4, -1, 0, 1, 2, 3, 5) {
		for n := -3; n < 8; n++ {
			if ok := areCuts(cuts, n); seg.Right(cuts, n) != ok {
				t.Fatal(cuts, n, !ok)
			}
		}
	}
	for _, x := range []struct {
		cuts []int
		n    int
		want bool
	}{
		{nil, 0, false},
		{[]int{}, 0, false},
		{[]int{0}, 0, true},
		{[]int{0}, 1, false},
		{[]int{0, 0}, 0, false},
		{[]int{0, math.MaxInt}, math.MaxInt, true},
		{[]int{0, 1, math.MaxInt}, math.MaxInt, true},
		{[]int{0, math.MaxInt}, math.MinInt, false},
		{[]int{0, math.MaxInt, math.MinInt}, math.MinInt, false},
		{[]int{0, math.MinInt}, math.MinInt, false},
		{[]int{math.MinInt, 0}, 0, false},
		{[]int{0, 1 << 32}, 0, false},
		{[]int{0, 1 << 32}, 1 << 32, true},
	} {
		if seg.Right(x.cuts, x.n) != x.want {
			t.Error(x.cuts, x.n)
		}
	}
	cuts := make([]int, 200)
	for i := range cuts {
		cuts[i] = 3 * i
	}
	for i := 1; i < 200; i++ {
		for _, by := range []int{-3, 3, -600, 600} {
			cuts[i] += by
			if seg.Right(cuts, cuts[199]) != (i == 199 && by > 0) {
				t.Error(i, by)
			}
			cuts[i] -= by
		}
		if !seg.Right(cuts, 597) || !seg.Right(cuts[:i], 3*i-3) {
			t.Error(i)
		}
	}
}

// P13.2: parts, next cuts and cuts ahead, at all places, and past both ends.
func TestParts(t *testing.T) {
	ats := []int{math.MinInt, math.MinInt + 1, -1 << 32, 1 << 32, 1<<32 + 1, math.MaxInt - 1, math.MaxInt}
	for at := -3; at < 9; at++ {
		ats = append(ats, at)
	}
	lists := rowsOf(4, -1, 0, 1, 2, 3, 5)
	lists = append(lists, []int{0, 1, 2, 3, 4, 5, 6}, []int{0, 2, 3, 7}, []int{0, 1, 5, 6, 8})
	lists = append(lists, []int{0, 1 << 32}, []int{0, 3, math.MaxInt}, []int{0, math.MaxInt - 1, math.MaxInt}, []int{0, math.MinInt}, []int{math.MinInt, 0})
	for _, cuts := range lists {
		for _, at := range ats {
			wantParts(t, cuts, at)
		}
	}
}

// P13.2: the document's example, and others by hand.
func TestPartsByHand(t *testing.T) {
	for _, x := range []struct {
		cuts             []int
		at               int
		part, next, back int
	}{
		{[]int{0, 2, 3}, 0, 0, 2, -1},
		{[]int{0, 2, 3}, 1, 0, 2, 0},
		{[]int{0, 2, 3}, 2, 1, 3, 0},
		{[]int{0, 2, 3}, 3, -1, -1, 2},
		{[]int{0, 2, 3}, 4, -1, -1, -1},
		{[]int{0, 2, 3}, -1, -1, -1, -1},
		{[]int{0, 2, 3}, math.MinInt, -1, -1, -1},
		{[]int{0, math.MaxInt}, math.MaxInt - 1, 0, math.MaxInt, 0},
		{[]int{0, math.MaxInt}, math.MaxInt, -1, -1, 0},
		{[]int{0, math.MaxInt}, math.MinInt, -1, -1, -1},
		{[]int{0}, 0, -1, -1, -1},
		{[]int{0}, 1, -1, -1, -1},
		{nil, 0, -1, -1, -1},
		{[]int{1, 2}, 1, -1, -1, -1},
		{[]int{0, 2, 2}, 1, -1, -1, -1},
		{[]int{0, 3, 2}, 1, -1, -1, -1},
	} {
		wantAnswer(t, seg.Part, x.cuts, x.at, x.part)
		wantAnswer(t, seg.Next, x.cuts, x.at, x.next)
		wantAnswer(t, seg.Back, x.cuts, x.at, x.back)
	}
}

// P13.3: one forth and one back from a cut is that cut, one back and one forth too.
func TestForthAndBack(t *testing.T) {
	for seed := range 500 {
		cuts := []int{0}
		for i, by := range mixed(seed, seed%12, 5) {
			cuts = append(cuts, cuts[i]+by+1)
		}
		for i, at := range cuts {
			if i+1 < len(cuts) {
				next, e := seg.Next(cuts, at)
				back, f := seg.Back(cuts, next)
				if next != cuts[i+1] || back != at || e != api.OK || f != api.OK {
					t.Fatal(cuts, at, next, e, back, f)
				}
				if part, e := seg.Part(cuts, at); part != i || e != api.OK {
					t.Fatal(cuts, at, part, e)
				}
			}
			if i > 0 {
				back, e := seg.Back(cuts, at)
				next, f := seg.Next(cuts, back)
				if back != cuts[i-1] || next != at || e != api.OK || f != api.OK {
					t.Fatal(cuts, at, back, e, next, f)
				}
			}
		}
	}
}

// P13.2: any numbers are shifted, and go round.
func TestShift(t *testing.T) {
	for _, x := range []struct {
		cuts []int
		by   int
		want []int
	}{
		{nil, 5, nil},
		{[]int{}, 5, nil},
		{[]int{0}, 0, []int{0}},
		{[]int{0, 2, 3}, 0, []int{0, 2, 3}},
		{[]int{0, 2, 3}, 7, []int{7, 9, 10}},
		{[]int{0, 2, 3}, -1, []int{-1, 1, 2}},
		{[]int{5, 5, -8, 1}, 3, []int{8, 8, -5, 4}},
		{[]int{0, math.MaxInt}, 1, []int{1, math.MinInt}},
		{[]int{0, 1, math.MaxInt}, math.MaxInt, []int{math.MaxInt, math.MinInt, -2}},
		{[]int{math.MinInt, 0, 1}, -1, []int{math.MaxInt, -1, 0}},
		{[]int{math.MinInt, 1}, math.MinInt, []int{0, math.MinInt + 1}},
		{[]int{1 << 31, 1<<32 - 1}, 1, []int{1<<31 + 1, 1 << 32}},
	} {
		if l := seg.Shift(x.cuts, x.by); !slices.Equal(l, x.want) {
			t.Errorf("Shift(%v, %d) = %v, wanted %v", x.cuts, x.by, l, x.want)
		}
	}
}

// P13.3: the rules of clusters, in their text.
func TestClusters(t *testing.T) {
	names := strings.Fields("Other CR LF Control Extend ZWJ RI Prepend Mark L V T LV LVT Pic")
	rules, line, e := rule.Parse("CR + LF\n[Control CR LF] /\n/ [Control CR LF]\nL + [L V LV LVT]\n[LV V] + [V T]\n[LVT T] + T\n+ [Extend ZWJ]\n+ Mark\nPrepend +\nPic Extend* ZWJ + Pic\n^ RI** RI + RI\n[^RI] RI** RI + RI\n", names)
	if e != api.OK {
		t.Fatal(line, e)
	}
	m, e := dfa.Compile(rules, len(names))
	if e != api.OK {
		t.Fatal(e)
	}
	for seed := range 100 {
		wantCompiled(t, rules, m, len(names), mixed(seed, 40, len(names)+1))
		l := mixed(seed, 40, 4)
		for i, c := range l {
			l[i] = []int{6, 14, 4, 5}[c]
		}
		wantCompiled(t, rules, m, len(names), l)
	}
	// What follows: long lists end soon, as the machine goes through them once.
	l := slices.Repeat([]int{6}, 1<<18)
	cuts, e := seg.Cuts(rules, m, len(names), l)
	if len(cuts) != 1<<17+1 || e != api.OK || !seg.Right(cuts, 1<<18) {
		t.Fatal(len(cuts), e)
	}
	for _, at := range []int{1, 2, 3, 1<<17 - 1, 1 << 17, 1<<18 - 2, 1<<18 - 1} {
		wantAnswer(t, seg.Part, cuts, at, at/2)
		wantAnswer(t, seg.Next, cuts, at, at/2*2+2)
		wantAnswer(t, seg.Back, cuts, at, (at-1)/2*2)
	}
}

// R3: what is handed in stays, spare room too.
func TestMemoryHandedIn(t *testing.T) {
	items := []api.Item{{Set: 1, How: 2}, {Set: 3, How: 1}, {Set: 2, How: 0}, {Set: 1, How: 1}}
	room := []api.Rule{rightOf(false, items[:2]...), rightOf(true, items[1:3]...), {Break: true}, {Break: true}}
	room[0].Right.Items = items[:2]
	room[1].Left.Items = items[1:3]
	rules, kept := slices.Clone(room), slices.Clone(items)
	m := mixedMachine(3, 20, 2, 2)
	was := cloned(m)
	l := []int{0, 1, -7, 99, 1, 0, 2, math.MaxInt, 1, 1}
	list := slices.Clone(l)
	seg.Cuts(room[:2], m, 2, l[:8])
	if !rule.Same(room, rules) || !slices.Equal(items, kept) || !dfa.Same(m, was) || !slices.Equal(l, list) {
		t.Error(room, items, m, l)
	}
	cuts := []int{0, 2, 3, 7, 7, 1, 9}
	seg.Right(cuts[:4], 7)
	for at := range 9 {
		seg.Part(cuts[:4], at)
		seg.Next(cuts[:4], at)
		seg.Back(cuts[:4], at)
		seg.Shift(cuts[:4], at)
	}
	if !slices.Equal(cuts, []int{0, 2, 3, 7, 7, 1, 9}) {
		t.Error(cuts)
	}
}

// spoilt writes into a list, and into its spare room.
func spoilt(l []int) {
	l = l[:cap(l)]
	for i := range l {
		l[i] = -77
	}
}

// R3, R4: what is answered is new memory, spare room too, and nothing is kept from call to call.
func TestMemoryAnswered(t *testing.T) {
	rules := []api.Rule{rightOf(false, api.Item{Set: 2}), rightOf(true, api.Item{Set: 1})}
	m := still(2, 3)
	for k := range 20 {
		l := mixed(k, k, 3)
		list := slices.Clone(l)
		want := cutsOf(rules, m, 2, l)
		cuts, _ := seg.Cuts(rules, m, 2, l)
		again, _ := seg.Cuts(rules, m, 2, l)
		moved := seg.Shift(cuts, 3)
		same := seg.Shift(cuts, 0)
		spoilt(again)
		spoilt(seg.Shift(cuts, 3))
		spoilt(same)
		if !slices.Equal(l, list) || !slices.Equal(cuts, want) {
			t.Fatal(l, cuts, want)
		}
		spoilt(cuts)
		for i, x := range moved {
			if x != want[i]+3 {
				t.Fatal(moved, want)
			}
		}
		wantCut(t, rules, m, 2, l)
	}
	if l := seg.Shift(nil, 4); len(l) != 0 {
		t.Error(l)
	}
	cuts := []int{0, 2, 4}
	for range 2 {
		wantParts(t, cuts, 2)
		cuts[1] = 3
		wantParts(t, cuts, 2)
		cuts[1] = 9
		wantParts(t, cuts, 2)
		cuts[1] = 1
		wantParts(t, cuts, 2)
	}
}

// R3: nil and empty lists are one.
func TestNilAndEmpty(t *testing.T) {
	for _, rules := range [][]api.Rule{nil, {}} {
		for _, l := range [][]int{nil, {}} {
			if cuts, e := seg.Cuts(rules, still(1, 0), 1, l); !slices.Equal(cuts, []int{0}) || e != api.OK {
				t.Error(cuts, e)
			}
		}
		if cuts, e := seg.Cuts(rules, still(1, 0), 1, []int{0, 0}); !slices.Equal(cuts, []int{0, 1, 2}) || e != api.OK {
			t.Error(cuts, e)
		}
	}
	for _, items := range [][]api.Item{nil, {}} {
		wantCut(t, []api.Rule{rightOf(false, items...)}, still(1, 1), 1, []int{0, 0, 5})
	}
}

// R1: all numbers, as many rules, states and numbers as there may be.
func TestMuch(t *testing.T) {
	var rules []api.Rule
	for i := range 40 {
		items := slices.Repeat([]api.Item{{Set: 1 << (i % 32)}}, 1+i%10)
		rules = append(rules, rightOf(i%2 == 0, items...))
	}
	m := mixedMachine(5, 300, 32, 40)
	wantCut(t, rules, m, 32, mixed(1, 300, 34))
	l := slices.Repeat(oddNumbers(), 1<<12)
	if cuts, e := seg.Cuts(rules, m, 32, l); len(cuts) != len(l)+1 || e != api.OK {
		t.Error(len(cuts), e)
	}
	cuts := make([]int, 1<<20)
	for i := range cuts {
		cuts[i] = i * 5
	}
	wantAnswer(t, seg.Part, cuts, 5<<19+4, 1<<19)
	wantAnswer(t, seg.Next, cuts, 5<<19+4, 5<<19+5)
	wantAnswer(t, seg.Back, cuts, 5<<19, 5<<19-5)
	if l := seg.Shift(cuts, -5); len(l) != 1<<20 || l[1] != 0 || !seg.Right(l[1:], 5<<20-10) {
		t.Error(len(l))
	}
}
