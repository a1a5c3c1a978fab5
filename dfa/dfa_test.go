package dfa_test

import (
	"math"
	"slices"
	"strings"
	"testing"

	"virama/api"
	"virama/dfa"
	"virama/nfa"
	"virama/pattern"
	"virama/rule"
)

// The document's words, written out again: states' lists are looked for one by one.

// firstOf are the first sets of right rules' left sides.
func firstOf(rules []api.Rule) []int64 {
	var l []int64
	for _, x := range rules {
		set, _ := nfa.First(x.Left)
		l = append(l, set)
	}
	return l
}

// stepOf is what a class makes of each set; n is in no set, as no class below 0 is.
func stepOf(rules []api.Rule, list []int64, c, n int) []int64 {
	if c == n {
		c = -1
	}
	var l []int64
	for i, x := range rules {
		set, _ := nfa.Step(x.Left, list[i], c)
		l = append(l, set)
	}
	return l
}

// doneOf are the rules, a digit each, whose left side is done.
func doneOf(rules []api.Rule, list []int64) int64 {
	var fits int64
	worth := int64(1)
	for i, x := range rules {
		if nfa.Done(x.Left, list[i]) {
			fits += worth
		}
		worth *= 2
	}
	return fits
}

// machineOf is the machine of right rules of n, and whether there is one.
func machineOf(rules []api.Rule, n int) (api.Machine, bool) {
	var m api.Machine
	lists := [][]int64{firstOf(rules)}
	for i := 0; i < len(lists); i++ {
		var row []int
		for c := range n + 1 {
			to := stepOf(rules, lists[i], c, n)
			at := slices.IndexFunc(lists, func(l []int64) bool { return slices.Equal(l, to) })
			if at < 0 {
				at = len(lists)
				lists = append(lists, to)
			}
			row = append(row, at)
		}
		if len(lists) > 300 {
			return api.Machine{}, false
		}
		m.Next = append(m.Next, row)
		m.Fits = append(m.Fits, doneOf(rules, lists[i]))
	}
	return m, true
}

// isSame tells whether two machines are the same, number by number.
func isSame(a, b api.Machine) bool {
	if len(a.Next) != len(b.Next) || len(a.Fits) != len(b.Fits) {
		return false
	}
	for i := range a.Next {
		if !slices.Equal(a.Next[i], b.Next[i]) {
			return false
		}
	}
	return slices.Equal(a.Fits, b.Fits)
}

// goOf are the states of a right machine behind each number.
func goOf(m api.Machine, n int, l []int) []int {
	states := []int{0}
	for i, c := range l {
		if c < 0 || c > n-1 {
			c = n
		}
		states = append(states, m.Next[states[i]][c])
	}
	return states
}

// reachedOf are the states of a right machine that are reached: marks are put until none is new.
func reachedOf(m api.Machine) []int {
	marked := make([]bool, len(m.Next))
	marked[0] = true
	for range m.Next {
		for i, row := range m.Next {
			for _, to := range row {
				marked[to] = marked[to] || marked[i]
			}
		}
	}
	var l []int
	for i, ok := range marked {
		if ok {
			l = append(l, i)
		}
	}
	return l
}

// rowsOf are all lists of up to n of some things.
func rowsOf[T any](n int, things ...T) [][]T {
	rows := [][]T{nil}
	for i := 0; i < len(rows); i++ {
		if len(rows[i]) == n {
			continue
		}
		for _, x := range things {
			rows = append(rows, append(slices.Clone(rows[i]), x))
		}
	}
	return rows
}

// itemsOf are all items of some sets.
func itemsOf(sets ...int64) []api.Item {
	var l []api.Item
	for _, set := range sets {
		for how := range 3 {
			l = append(l, api.Item{Set: set, How: how})
		}
	}
	return l
}

// rulesOf are all rules with up to k of these items at the left, one without Start and one with it.
func rulesOf(k int, items ...api.Item) []api.Rule {
	var l []api.Rule
	for _, a := range rowsOf(k, items...) {
		l = append(l, api.Rule{Left: api.Pattern{Items: a}}, api.Rule{Left: api.Pattern{Start: true, Items: a}})
	}
	return l
}

// leftOf is a rule with these items at the left.
func leftOf(start bool, items ...api.Item) api.Rule {
	return api.Rule{Left: api.Pattern{Start: start, Items: items}}
}

// mixed are k numbers below n, mixed by a seed.
func mixed(seed, k, n int) []int {
	l := make([]int, k)
	x := uint32(seed)*2654435761 + 12345
	for i := range l {
		x = x*1664525 + 1013904223
		l[i] = int(x>>8) % n
	}
	return l
}

// picked are some of the rules, as many as there are numbers.
func picked(l []api.Rule, numbers []int) []api.Rule {
	var p []api.Rule
	for _, i := range numbers {
		p = append(p, l[i])
	}
	return p
}

// mixedMachine is a right one of so many states, mixed by a seed.
func mixedMachine(seed, states, n int) api.Machine {
	var m api.Machine
	for i := range states {
		m.Next = append(m.Next, mixed(seed*1000+i, n+1, states))
		m.Fits = append(m.Fits, int64(mixed(seed*7+i, 1, 1<<20)[0])<<(i%21))
	}
	return m
}

// still is a right machine whose states all lead to themselves.
func still(states, n int) api.Machine {
	m := api.Machine{Fits: make([]int64, states)}
	for i := range states {
		m.Next = append(m.Next, slices.Repeat([]int{i}, n+1))
	}
	return m
}

// cloned is a machine in new memory.
func cloned(m api.Machine) api.Machine {
	c := api.Machine{Fits: slices.Clone(m.Fits)}
	for _, row := range m.Next {
		c.Next = append(c.Next, slices.Clone(row))
	}
	return c
}

// upTo are the numbers from 0 on that are less than n.
func upTo(n int) []int {
	l := make([]int, n)
	for i := range l {
		l[i] = i
	}
	return l
}

// oddNumbers are no classes, whatever n is.
func oddNumbers() []int {
	l := []int{-1, -2, -31, -32, -33, -64, 32, 33, 34, 63, 64, 65, 127, 128, 256}
	return append(l, 1<<31, 1<<32, 1<<32+1, -1<<32, math.MaxInt, math.MaxInt-1, math.MinInt, math.MinInt+1)
}

// wantMachine asks for rules' machine.
func wantMachine(t *testing.T, rules []api.Rule, n int) api.Machine {
	t.Helper()
	want, ok := machineOf(rules, n)
	m, e := dfa.Compile(rules, n)
	if !ok && (e != api.ErrMachine || len(m.Next) != 0 || len(m.Fits) != 0) {
		t.Fatalf("Compile(%v, %d) = %v, %d, wanted none", rules, n, m, e)
	}
	if ok && (e != api.OK || !isSame(m, want) || !dfa.Right(m, n)) {
		t.Fatalf("Compile(%v, %d) = %v, %d, wanted %v", rules, n, m, e, want)
	}
	return m
}

// wantNone asks that there is no machine, for this reason.
func wantNone(t *testing.T, rules []api.Rule, n int, why api.Errno) {
	t.Helper()
	if m, e := dfa.Compile(rules, n); e != why || len(m.Next) != 0 || len(m.Fits) != 0 {
		t.Fatalf("Compile(%v, %d) = %v, %d, wanted %d", rules, n, m, e, why)
	}
}

// wantGone asks how a right machine goes through a list.
func wantGone(t *testing.T, m api.Machine, n int, l []int) {
	t.Helper()
	want := goOf(m, n, l)
	var fits []int64
	for _, state := range want {
		fits = append(fits, m.Fits[state])
	}
	if s, e := dfa.Go(m, n, l); !slices.Equal(s, want) || e != api.OK {
		t.Fatalf("Go(%v, %d, %v) = %v, %d, wanted %v", m, n, l, s, e, want)
	}
	if f, e := dfa.Fits(m, n, l); !slices.Equal(f, fits) || e != api.OK {
		t.Fatalf("Fits(%v, %d, %v) = %v, %d, wanted %v", m, n, l, f, e, fits)
	}
}

// wantReached asks which states of a right machine are reached.
func wantReached(t *testing.T, m api.Machine, n int, want ...int) {
	t.Helper()
	if r, e := dfa.Reached(m, n); !slices.Equal(r, want) || e != api.OK {
		t.Fatalf("Reached(%v, %d) = %v, %d, wanted %v", m, n, r, e, want)
	}
}

// wantRight asks that a machine is right, and gone through.
func wantRight(t *testing.T, m api.Machine, n int) {
	t.Helper()
	if !dfa.Right(m, n) {
		t.Fatalf("Right(%v, %d) = false", m, n)
	}
	wantGone(t, m, n, []int{0, n - 1, n, -1})
	wantReached(t, m, n, reachedOf(m)...)
}

// wantWrong asks that a machine is not right, and not gone through.
func wantWrong(t *testing.T, m api.Machine, n int) {
	t.Helper()
	if dfa.Right(m, n) {
		t.Fatalf("Right(%v, %d) = true", m, n)
	}
	for _, l := range [][]int{nil, {}, {0}, {-1, 40}} {
		if s, e := dfa.Go(m, n, l); len(s) != 0 || e != api.ErrMachine {
			t.Fatalf("Go(%v, %d, %v) = %v, %d", m, n, l, s, e)
		}
		if f, e := dfa.Fits(m, n, l); len(f) != 0 || e != api.ErrMachine {
			t.Fatalf("Fits(%v, %d, %v) = %v, %d", m, n, l, f, e)
		}
	}
	if r, e := dfa.Reached(m, n); len(r) != 0 || e != api.ErrMachine {
		t.Fatalf("Reached(%v, %d) = %v, %d", m, n, r, e)
	}
}

// wantFollowed asks for what follows: a rule is in the Fits of a place just if its Left fits behind it.
func wantFollowed(t *testing.T, rules []api.Rule, m api.Machine, n int, l []int) {
	t.Helper()
	f, e := dfa.Fits(m, n, l)
	if len(f) != len(l)+1 || e != api.OK {
		t.Fatalf("Fits of %v, %v: %v, %d", rules, l, f, e)
	}
	for at, fits := range f {
		for i, x := range rules {
			if in := fits>>i&1 == 1; in != pattern.Behind(x.Left, l, at) {
				t.Fatalf("Fits of %v, %v: at %d rule %d is in: %v", rules, l, at, i, in)
			}
		}
		if fits>>len(rules) != 0 {
			t.Fatalf("Fits of %v, %v: at %d a rule that is not there", rules, l, at)
		}
	}
}

// P12.1: machines by hand.
func TestByHand(t *testing.T) {
	names := []string{"A", "B", "C"}
	for _, x := range []struct {
		text string
		n    int
		want api.Machine
	}{
		{"A + B", 2, api.Machine{Next: [][]int{{1, 0, 0}, {1, 0, 0}}, Fits: []int64{0, 1}}},
		{"", 1, api.Machine{Next: [][]int{{0, 0}}, Fits: []int64{0}}},
		{"", 3, api.Machine{Next: [][]int{{0, 0, 0, 0}}, Fits: []int64{0}}},
		// An empty left side fits everywhere, one with Start at the start alone.
		{"+ A", 1, api.Machine{Next: [][]int{{0, 0}}, Fits: []int64{1}}},
		{"^ /", 1, api.Machine{Next: [][]int{{1, 1}, {1, 1}}, Fits: []int64{1, 0}}},
		{"+ A\n^ / B\nA +", 2, api.Machine{Next: [][]int{{1, 2, 2}, {1, 2, 2}, {1, 2, 2}}, Fits: []int64{3, 5, 1}}},
		// States are numbered class by class, and n is the last one.
		{"C +\nB +\nA +", 3, api.Machine{Next: [][]int{{1, 2, 3, 0}, {1, 2, 3, 0}, {1, 2, 3, 0}, {1, 2, 3, 0}}, Fits: []int64{0, 4, 2, 1}}},
		// State by state: what state 1 leads to is numbered ahead of what state 2 leads to.
		{"^ A B +\n^ B A +", 2, api.Machine{Next: [][]int{{1, 2, 3}, {3, 4, 3}, {5, 3, 3}, {3, 3, 3}, {3, 3, 3}, {3, 3, 3}}, Fits: []int64{0, 0, 0, 0, 1, 2}}},
		// A state that is reached by n alone.
		{"^ .* +", 2, api.Machine{Next: [][]int{{0, 0, 1}, {1, 1, 1}}, Fits: []int64{1, 0}}},
		{"^ A** A +", 1, api.Machine{Next: [][]int{{1, 2}, {0, 2}, {2, 2}}, Fits: []int64{0, 1, 0}}},
		{"A B +", 2, api.Machine{Next: [][]int{{1, 0, 0}, {1, 2, 0}, {1, 0, 0}}, Fits: []int64{0, 0, 1}}},
	} {
		rules, _, e := rule.Parse(x.text, names[:x.n])
		if e != api.OK {
			t.Fatal(x.text, e)
		}
		if m, e := dfa.Compile(rules, x.n); !isSame(m, x.want) || e != api.OK {
			t.Errorf("Compile of %q, %d: %v, %d, wanted %v", x.text, x.n, m, e, x.want)
		}
	}
}

// P12.1, P12.3: the machine of each rule of few items.
func TestOneRule(t *testing.T) {
	lists := append(rowsOf(4, 0, 1, 2, -1), []int{0, 0, 0, 1, 1, 1}, []int{0, 1, 0, 1, 0, 1, 0})
	for _, x := range rulesOf(2, itemsOf(0, 1, 2, 3)...) {
		for n := 2; n <= 3; n++ {
			rules := []api.Rule{x}
			m := wantMachine(t, rules, n)
			wantReached(t, m, n, upTo(len(m.Next))...)
			for _, l := range lists {
				wantFollowed(t, rules, m, n, l)
			}
		}
	}
}

// wantMixed asks for the machine of rules of three classes, and for what follows of it, by lists mixed by a seed; it tells whether there is one.
func wantMixed(t *testing.T, rules []api.Rule, seed int) bool {
	t.Helper()
	m := wantMachine(t, rules, 3)
	if len(m.Next) == 0 {
		return false
	}
	wantReached(t, m, 3, upTo(len(m.Next))...)
	odd := mixed(seed+3, 30, 3)
	for i := 0; i < 30; i += 7 {
		odd[i] = oddNumbers()[seed%23]
	}
	for _, l := range [][]int{mixed(seed+1, 30, 3), slices.Repeat(mixed(seed+2, 3, 3), 7), odd} {
		wantFollowed(t, rules, m, 3, l)
	}
	return true
}

// P12.1, P12.3: machines of several rules, mixed.
func TestRules(t *testing.T) {
	all := rulesOf(3, itemsOf(1, 2, 5, 7)...)
	for seed := range 400 {
		if !wantMixed(t, picked(all, mixed(seed, 1+seed%8, len(all))), seed) {
			t.Fatal(seed)
		}
	}
}

// P12.1, P12.3: likewise of rules of up to ten items, some of which have too many states.
func TestLongRules(t *testing.T) {
	all := append(itemsOf(1, 3, 6, 5, 7), api.Item{Set: 3}, api.Item{Set: 5}, api.Item{Set: 7}, api.Item{Set: 7})
	none := 0
	for seed := range 400 {
		var rules []api.Rule
		for i := range 1 + seed%4 {
			var items []api.Item
			for _, x := range mixed(seed*11+i, 10-(seed+i)%7, len(all)) {
				items = append(items, all[x])
			}
			rules = append(rules, leftOf(seed%3 == i, items...))
		}
		if !wantMixed(t, rules, seed) {
			none++
		}
	}
	if none < 20 || none > 380 {
		t.Error(none, "without machine")
	}
}

// P12.1: the right sides, and what rules say, change no machine.
func TestRightSides(t *testing.T) {
	all := rulesOf(2, itemsOf(1, 2)...)
	for seed := range 50 {
		rules := picked(all, mixed(seed, 3, len(all)))
		m := wantMachine(t, rules, 2)
		for i, j := range mixed(seed+1, 3, len(all)) {
			rules[i].Right.Items = all[j].Left.Items
			rules[i].Break = i != 1
		}
		if again, e := dfa.Compile(rules, 2); !isSame(again, m) || e != api.OK {
			t.Fatal(rules, again, e)
		}
	}
}

// P12.1: of how many classes rules are, from 1 to 32, the last class in sets or in none.
func TestClasses(t *testing.T) {
	for n := 1; n <= 32; n++ {
		for c := range n {
			rules := []api.Rule{leftOf(false, api.Item{Set: 1 << c}), leftOf(true, api.Item{Set: 1<<n - 1, How: 1}), leftOf(false, api.Item{Set: 1<<n - 1 - 1<<c}, api.Item{Set: 1 << c})}
			m := wantMachine(t, rules, n)
			for d := -2; d < 36; d++ {
				wantFollowed(t, rules, m, n, []int{0, c, d, c, n - 1})
				wantGone(t, m, n, []int{0, c, d, c, n - 1})
			}
		}
		wantNone(t, []api.Rule{leftOf(false, api.Item{Set: 1 << n})}, n, api.ErrRule)
		wantMachine(t, nil, n)
	}
}

// P12.1: forty rules have a digit each.
func TestManyRules(t *testing.T) {
	never := leftOf(false, api.Item{})
	for k := range 41 {
		rules := slices.Repeat([]api.Rule{never}, k)
		if m := wantMachine(t, rules, 2); len(m.Next) != 1 || m.Fits[0] != 0 {
			t.Fatal(k, m)
		}
		for i := range k {
			rules[i] = leftOf(false, api.Item{Set: 1})
			if m := wantMachine(t, rules, 2); len(m.Next) != 2 || m.Fits[1] != 1<<i {
				t.Fatal(k, i, m)
			}
			rules[i] = leftOf(true)
			if m := wantMachine(t, rules, 2); len(m.Next) != 2 || m.Fits[0] != 1<<i || m.Fits[1] != 0 {
				t.Fatal(k, i, m)
			}
			rules[i] = never
		}
		rules = make([]api.Rule, k)
		if m := wantMachine(t, rules, 2); len(m.Next) != 1 || m.Fits[0] != 1<<k-1 {
			t.Fatal(k, m)
		}
	}
	var rules []api.Rule
	for c := range 32 {
		rules = append(rules, leftOf(false, api.Item{Set: 1 << c}))
	}
	rules = append(rules, rulesOf(1, itemsOf(1<<31, 1<<32-1)[:2]...)...)
	m := wantMachine(t, rules[:38], 32)
	wantFollowed(t, rules[:38], m, 32, []int{31, 30, 0, 32, 31, 31, 5})
}

// chains are rules of six classes which have sum more than 257 states: one tells of the last eight numbers which are class 0, the others count how often another class stands from the start on.
func chains(sum int) []api.Rule {
	items := slices.Repeat([]api.Item{{Set: 63}}, 8)
	items[0].Set = 1
	rules := []api.Rule{leftOf(false, items...)}
	for c := 1; sum > 0; c++ {
		k := min(sum, 10)
		sum -= k
		rules = append(rules, leftOf(true, slices.Repeat([]api.Item{{Set: 1 << c}}, k)...))
	}
	return rules
}

// P12.1: a machine of 300 states there is, one of 301 there is not.
func TestMostStates(t *testing.T) {
	for sum := 1; sum < 50; sum++ {
		rules := chains(sum)
		m := wantMachine(t, rules, 6)
		if ok := sum <= 43; ok != (len(m.Next) == 257+sum) {
			t.Fatal(sum, len(m.Next))
		}
		if sum > 43 {
			wantNone(t, rules, 6, api.ErrMachine)
			wantNone(t, slices.Repeat(rules, 6), 6, api.ErrMachine)
			// What is not right is told first.
			wantNone(t, rules, 5, api.ErrRule)
			wantNone(t, append(slices.Clone(rules), leftOf(false, api.Item{Set: -1})), 6, api.ErrRule)
			wantNone(t, slices.Repeat(rules, 9), 6, api.ErrRule)
		}
	}
	for k := 1; k <= 10; k++ {
		items := slices.Repeat([]api.Item{{Set: 3}}, k)
		items[0].Set = 1
		m := wantMachine(t, []api.Rule{leftOf(false, items...)}, 2)
		if k <= 8 && len(m.Next) != 1<<k || k > 8 && len(m.Next) != 0 {
			t.Error(k, len(m.Next))
		}
	}
}

// P12.1: rules that are not right have no machine, each at each place.
func TestWrongRules(t *testing.T) {
	var l []api.Rule
	for _, x := range []api.Item{{Set: -1}, {Set: 1 << 32}, {Set: math.MaxInt64}, {Set: math.MinInt64}, {How: -1}, {How: 3}, {How: math.MaxInt}} {
		l = append(l, leftOf(false, x), leftOf(true, api.Item{Set: 1}, x), api.Rule{Right: api.Pattern{Items: []api.Item{x}}})
	}
	l = append(l, leftOf(false, make([]api.Item, 11)...), api.Rule{Right: api.Pattern{Items: make([]api.Item, 11)}}, api.Rule{Right: api.Pattern{Start: true}})
	for _, x := range l {
		for n := range 34 {
			for k := range 3 {
				for at := range k + 1 {
					wantNone(t, slices.Insert(make([]api.Rule, k), at, x), n, api.ErrRule)
				}
			}
		}
		wantNone(t, append(make([]api.Rule, 39), x), 32, api.ErrRule)
	}
	for _, k := range []int{41, 42, 64, 80, 1 << 16} {
		wantNone(t, make([]api.Rule, k), 1, api.ErrRule)
	}
	for _, n := range append(oddNumbers()[:6], 0, 33, 34, 64, 1<<32+1, math.MaxInt, math.MinInt) {
		for _, rules := range [][]api.Rule{nil, {}, {{}}, {leftOf(false, api.Item{Set: 1})}} {
			wantNone(t, rules, n, api.ErrRule)
		}
	}
}

// P12.1: of how many classes machines are right, and of no others.
func TestRightClasses(t *testing.T) {
	for n := -40; n < 70; n++ {
		for c := range 70 {
			m := still(2, c)
			if n == c && n >= 1 && n <= 32 {
				wantRight(t, m, n)
			} else {
				wantWrong(t, m, n)
			}
		}
	}
	for _, n := range oddNumbers() {
		for _, c := range []int{0, 1, 31, 32} {
			if n != c {
				wantWrong(t, still(1, c), n)
			}
		}
		wantWrong(t, api.Machine{Next: [][]int{nil}, Fits: []int64{0}}, n)
		wantWrong(t, api.Machine{}, n)
	}
}

// P12.1: how many states there may be, and that there are as many Fits.
func TestRightStates(t *testing.T) {
	for _, k := range []int{0, 1, 2, 3, 255, 256, 299, 300, 301, 302, 600, 1 << 16} {
		m := still(k, 2)
		for _, d := range []int{-k, -k + 1, -300, -2, -1, 0, 1, 2, 300, k} {
			if k+d < 0 {
				continue
			}
			x := api.Machine{Next: m.Next, Fits: make([]int64, k+d)}
			if d == 0 && k >= 1 && k <= 300 {
				wantRight(t, x, 2)
			} else {
				wantWrong(t, x, 2)
			}
		}
	}
	for _, next := range [][][]int{nil, {}} {
		for _, fits := range [][]int64{nil, {}, {0}} {
			wantWrong(t, api.Machine{Next: next, Fits: fits}, 1)
		}
	}
}

// P12.1: each number of a machine, at each of its places.
func TestRightNumbers(t *testing.T) {
	for _, k := range []int{1, 2, 5, 300} {
		for _, n := range []int{1, 3, 32} {
			for _, at := range []int{0, 1, k / 2, k - 2, k - 1} {
				if at < 0 || at >= k {
					continue
				}
				m := still(k, n)
				for c := range n + 1 {
					for _, to := range []int{0, 1, k - 1, k, k + 1, 300, -1, -k, 1 << 32, -1 << 32, math.MaxInt, math.MinInt} {
						m.Next[at][c] = to
						if ok := to >= 0 && to < k; ok != dfa.Right(m, n) {
							t.Fatal(k, n, at, c, to)
						} else if !ok && c%16 == 0 {
							wantWrong(t, m, n)
						}
					}
					m.Next[at][c] = at
				}
				row := m.Next[at]
				for _, r := range [][]int{nil, {}, row[:n], append(slices.Clone(row), 0), slices.Repeat(row, 2), row[:1]} {
					m.Next[at] = r
					wantWrong(t, m, n)
				}
				m.Next[at] = row
				for _, f := range []int64{0, 1, 1 << 39, 1<<40 - 1, 1 << 40, 1<<40 + 1, 1 << 41, -1, -2, -1 << 39, -1 << 40, 1 << 62, math.MaxInt64, math.MinInt64, math.MinInt64 + 1} {
					m.Fits[at] = f
					if f >= 0 && f <= 1<<40-1 {
						wantRight(t, m, n)
					} else {
						wantWrong(t, m, n)
					}
				}
			}
		}
	}
}

// P12.2: mixed machines, gone through, be they rules' or not.
func TestGoing(t *testing.T) {
	for seed := range 300 {
		n := 1 + seed%32
		m := mixedMachine(seed, 1+mixed(seed, 1, 300)[0], n)
		wantReached(t, m, n, reachedOf(m)...)
		wantGone(t, m, n, nil)
		wantGone(t, m, n, []int{})
		wantGone(t, m, n, mixed(seed, 60, n))
		wantGone(t, m, n, mixed(seed, 60, n+2))
		for _, c := range oddNumbers() {
			wantGone(t, m, n, []int{c, 0, c, c, n - 1, n})
		}
	}
}

// P12.2: each number that is no class is as n.
func TestNoClasses(t *testing.T) {
	for n := 1; n <= 32; n++ {
		m := api.Machine{Fits: make([]int64, n+2)}
		for range n + 2 {
			var row []int
			for c := range n + 1 {
				row = append(row, c+1)
			}
			m.Next = append(m.Next, row)
		}
		for i := range m.Fits {
			m.Fits[i] = 1<<40 - 1 - int64(i)
		}
		numbers := oddNumbers()
		for c := -3; c < 36; c++ {
			numbers = append(numbers, c)
		}
		wantGone(t, m, n, numbers)
		s, _ := dfa.Go(m, n, []int{n - 1, n, n + 1, -1, 0})
		f, _ := dfa.Fits(m, n, []int{n - 1, -1})
		if !slices.Equal(s, []int{0, n, n + 1, n + 1, n + 1, 1}) || !slices.Equal(f, []int64{1<<40 - 1, 1<<40 - 1 - int64(n), 1<<40 - 2 - int64(n)}) {
			t.Fatal(n, s, f)
		}
	}
}

// P12.2: states that are reached, by hand, and all small machines.
func TestReached(t *testing.T) {
	row := func(states ...int) []int { return states }
	for _, x := range []struct {
		next [][]int
		want []int
	}{
		{[][]int{row(0, 0)}, []int{0}},
		{[][]int{row(0, 0), row(1, 1), row(0, 1)}, []int{0}},
		// The number behind the last class leads on, too.
		{[][]int{row(0, 1), row(1, 1), row(0, 1)}, []int{0, 1}},
		{[][]int{row(0, 2), row(1, 1), row(0, 1)}, []int{0, 1, 2}},
		// Rising, however they are met.
		{[][]int{row(3, 0), row(1, 1), row(2, 2), row(1, 3), row(4, 4)}, []int{0, 1, 3}},
		{[][]int{row(4, 3), row(4, 4), row(4, 4), row(3, 2), row(4, 1)}, []int{0, 1, 2, 3, 4}},
		{[][]int{row(1, 1), row(0, 1)}, []int{0, 1}},
	} {
		wantReached(t, api.Machine{Next: x.next, Fits: make([]int64, len(x.next))}, 1, x.want...)
	}
	rows := slices.DeleteFunc(rowsOf(2, 0, 1, 2), func(l []int) bool { return len(l) < 2 })
	for _, next := range rowsOf(3, rows...) {
		if len(next) == 3 {
			m := api.Machine{Next: next, Fits: make([]int64, 3)}
			wantReached(t, m, 1, reachedOf(m)...)
		}
	}
	// A line of states, forth and back.
	m := still(300, 1)
	for i := range 299 {
		m.Next[i][0] = i + 1
	}
	wantReached(t, m, 1, reachedOf(m)...)
	for i := range 300 {
		m.Next[i][0] = max(i-1, 0)
	}
	m.Next[0][1] = 200
	wantReached(t, m, 1, reachedOf(m)...)
}

// P12.1: machines are the same, if each number is, right or not.
func TestSame(t *testing.T) {
	var all []api.Machine
	rows := rowsOf(2, []int{}, []int{0}, []int{1}, []int{0, 1}, []int{1, 0}, []int{-1})
	for _, next := range rows {
		for _, fits := range rowsOf(2, int64(0), 1, math.MinInt64) {
			all = append(all, api.Machine{Next: next, Fits: fits})
		}
	}
	for i, x := range all {
		for j, y := range all {
			if dfa.Same(x, y) != (i == j) {
				t.Fatal(x, y)
			}
		}
		if !dfa.Same(x, cloned(x)) || !dfa.Same(cloned(x), x) {
			t.Fatal(x)
		}
	}
	if !dfa.Same(api.Machine{Next: [][]int{}, Fits: []int64{}}, api.Machine{}) || !dfa.Same(api.Machine{Next: [][]int{nil}}, api.Machine{Next: [][]int{{}}}) {
		t.Error("nil and empty")
	}
	m := mixedMachine(1, 300, 32)
	for i := range 300 {
		x := cloned(m)
		x.Next[i][i%33]++
		y := cloned(m)
		y.Fits[i]++
		if dfa.Same(m, x) || dfa.Same(m, y) || !dfa.Same(m, cloned(m)) {
			t.Fatal(i)
		}
	}
}

// P12.3: the rules of clusters, in their text.
func TestClusters(t *testing.T) {
	names := strings.Fields("Other CR LF Control Extend ZWJ RI Prepend Mark L V T LV LVT Pic")
	rules, line, e := rule.Parse("CR + LF\n[Control CR LF] /\n/ [Control CR LF]\nL + [L V LV LVT]\n[LV V] + [V T]\n[LVT T] + T\n+ [Extend ZWJ]\n+ Mark\nPrepend +\nPic Extend* ZWJ + Pic\n^ RI** RI + RI\n[^RI] RI** RI + RI\n", names)
	if e != api.OK {
		t.Fatal(line, e)
	}
	m := wantMachine(t, rules, len(names))
	for seed := range 100 {
		wantFollowed(t, rules, m, len(names), mixed(seed, 40, len(names)))
		l := mixed(seed, 40, 3)
		for i, c := range l {
			l[i] = []int{6, 14, 4}[c]
		}
		wantFollowed(t, rules, m, len(names), l)
	}
}

// R1: long lists, and the most that rules may ask for, end soon.
func TestMuch(t *testing.T) {
	m := mixedMachine(5, 300, 32)
	wantGone(t, m, 32, mixed(1, 1<<20, 34))
	var rules []api.Rule
	for i := range 40 {
		items := slices.Repeat([]api.Item{{Set: 1<<32 - 1, How: i % 3}}, 10)
		items[i%10].Set = 1 << (i % 32)
		rules = append(rules, leftOf(i%2 == 0, items...))
	}
	wantMachine(t, rules, 32)
	for i := range rules {
		wantMachine(t, rules[i:i+1], 32)
	}
}

// R3: what is handed in stays, spare room too.
func TestMemoryHandedIn(t *testing.T) {
	items := []api.Item{{Set: 1, How: 2}, {Set: 3, How: 1}, {Set: 2, How: 0}, {Set: 1, How: 1}}
	room := []api.Rule{leftOf(false, items[:2]...), leftOf(true, items[1:3]...), {Break: true}, {Break: true}}
	room[0].Left.Items = items[:2]
	room[1].Left.Items = items[1:3]
	rules, kept := slices.Clone(room), slices.Clone(items)
	dfa.Compile(room[:2], 2)
	if !rule.Same(room, rules) || !slices.Equal(items, kept) {
		t.Error(room, items)
	}
	m := mixedMachine(3, 20, 4)
	was := cloned(m)
	l := mixed(3, 20, 6)
	list := slices.Clone(l)
	x := api.Machine{Next: m.Next[:20:20], Fits: m.Fits}
	dfa.Go(x, 4, l[:7])
	dfa.Fits(x, 4, l[:7])
	dfa.Reached(x, 4)
	dfa.Right(x, 4)
	dfa.Same(x, m)
	if !isSame(m, was) || !slices.Equal(l, list) {
		t.Error(m, l)
	}
}

// spoilt writes into a list, and into its spare room.
func spoilt[T any](l []T, x T) {
	l = l[:cap(l)]
	for i := range l {
		l[i] = x
	}
}

// R3: what is answered is new memory, spare room too, and no two of its lists share any.
func TestMemoryAnswered(t *testing.T) {
	rules := picked(rulesOf(2, itemsOf(1, 2)...), mixed(9, 3, 80))
	want := wantMachine(t, rules, 2)
	for state := range want.Next {
		m, _ := dfa.Compile(rules, 2)
		spoilt(m.Next[state], -7)
		for i, row := range m.Next {
			if i != state && !slices.Equal(row, want.Next[i]) {
				t.Fatal(state, i, row)
			}
		}
		if !slices.Equal(m.Fits, want.Fits) {
			t.Fatal(state, m.Fits)
		}
	}
	m, _ := dfa.Compile(rules, 2)
	kept := cloned(m)
	l := []int{0, 1, 1, 0}
	spoil := func() {
		a, _ := dfa.Compile(rules, 2)
		spoilt(a.Next, nil)
		spoilt(a.Fits, -7)
		s, _ := dfa.Go(m, 2, l)
		spoilt(s, -7)
		f, _ := dfa.Fits(m, 2, l)
		spoilt(f, -7)
		f, _ = dfa.Fits(m, 2, nil)
		spoilt(f, -7)
		r, _ := dfa.Reached(m, 2)
		spoilt(r, -7)
	}
	s, _ := dfa.Go(m, 2, l)
	spoil()
	if !isSame(m, kept) || !slices.Equal(s, goOf(kept, 2, l)) || !slices.Equal(l, []int{0, 1, 1, 0}) {
		t.Error(m, s, l)
	}
	wantMachine(t, rules, 2)
	wantRight(t, m, 2)
}

// R4: nothing is kept from call to call.
func TestNothingIsKept(t *testing.T) {
	items := []api.Item{{Set: 1}, {Set: 2, How: 1}}
	rules := []api.Rule{leftOf(false, items...)}
	for range 2 {
		for _, x := range []api.Item{{Set: 1}, {Set: 1, How: 1}, {Set: 2, How: 2}, {Set: 3}} {
			rules[0].Left.Items[0] = x
			m := wantMachine(t, rules, 2)
			wantRight(t, m, 2)
			m.Next[0][0] = 99
			wantWrong(t, m, 2)
			m.Next[0][0] = 0
			wantRight(t, m, 2)
		}
	}
}
