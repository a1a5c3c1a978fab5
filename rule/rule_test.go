package rule_test

import (
	"math"
	"slices"
	"testing"

	"virama/api"
	"virama/rule"
)

// The document's words, written out again, one way of fitting behind the other.

// in tells whether a number is a class, and in a set.
func in(set int64, c int) bool {
	return c >= 0 && c < 32 && set/int64(math.Pow(2, float64(c)))%2 == 1
}

// allIn tells whether each number of a list is in a set.
func allIn(set int64, l []int) bool {
	return !slices.ContainsFunc(l, func(c int) bool { return !in(set, c) })
}

// fit tells whether all of a list fit items, by each number of them that the first item may have.
func fit(items []api.Item, l []int) bool {
	if len(items) == 0 {
		return len(l) == 0
	}
	x := items[0]
	for n := range len(l) + 1 {
		if x.How == 0 && n != 1 || x.How == 2 && n%2 == 1 {
			continue
		}
		if allIn(x.Set, l[:n]) && fit(items[1:], l[n:]) {
			return true
		}
	}
	return false
}

// applies tells whether a right rule applies at a place of a list.
func applies(x api.Rule, l []int, at int) bool {
	behind, ahead := false, false
	if at < 1 || at > len(l)-1 {
		return false
	}
	for from := range at + 1 {
		behind = behind || fit(x.Left.Items, l[from:at]) && (!x.Left.Start || from == 0)
	}
	for to := at; to <= len(l); to++ {
		ahead = ahead || fit(x.Right.Items, l[at:to])
	}
	return behind && ahead
}

// say tells what right rules say of a place, and which one says it.
func say(rules []api.Rule, l []int, at int) (bool, int) {
	if at < 1 || at > len(l)-1 {
		return false, -1
	}
	i := slices.IndexFunc(rules, func(x api.Rule) bool { return applies(x, l, at) })
	return i < 0 || rules[i].Break, i
}

// boundaries tells those of a list by right rules.
func boundaries(rules []api.Rule, l []int) []int {
	var cuts []int
	for at := range len(l) + 1 {
		if is, _ := say(rules, l, at); is || at == 0 || at == len(l) {
			cuts = append(cuts, at)
		}
	}
	return cuts
}

// rowsOf are all lists of up to n of some things.
func rowsOf[T any](n int, things ...T) [][]T {
	rows := [][]T{nil}
	for i := 0; i < len(rows); i++ {
		if len(rows[i]) == n {
			continue
		}
		for _, x := range things {
			rows = append(rows, append(slices.Clone(rows[i]), x))
		}
	}
	return rows
}

// itemsOf are all items of some sets.
func itemsOf(sets ...int64) []api.Item {
	var l []api.Item
	for _, set := range sets {
		for how := range 3 {
			l = append(l, api.Item{Set: set, How: how})
		}
	}
	return l
}

// rulesOf are all rules of these items, up to left and right many at their sides.
func rulesOf(left, right int, items ...api.Item) []api.Rule {
	var l []api.Rule
	for _, a := range rowsOf(left, items...) {
		for _, b := range rowsOf(right, items...) {
			for k := range 4 {
				l = append(l, api.Rule{Left: api.Pattern{Start: k%2 == 1, Items: a}, Right: api.Pattern{Items: b}, Break: k >= 2})
			}
		}
	}
	return l
}

// mixed are n numbers below most, by a rule from a seed.
func mixed(seed, n, most int) []int {
	l := make([]int, n)
	x := uint32(seed)*2654435761 + 12345
	for i := range l {
		x = x*1664525 + 1013904223
		l[i] = int(x>>8) % most
	}
	return l
}

// picked are some of the rules, as many as there are numbers.
func picked(l []api.Rule, numbers []int) []api.Rule {
	var p []api.Rule
	for _, i := range numbers {
		p = append(p, l[i])
	}
	return p
}

// wantJudged asks whether rules say of a list, at each of its places and at what are none, what the document's words say.
func wantJudged(t *testing.T, rules []api.Rule, l []int) {
	t.Helper()
	ats := []int{math.MinInt, -1 << 32, 1<<32 + 1, math.MaxInt}
	for at := -2; at < len(l)+3; at++ {
		ats = append(ats, at)
	}
	for _, at := range ats {
		is, by := say(rules, l, at)
		if b, i := rule.Decide(rules, l, at); b != is || i != by {
			t.Fatalf("Decide(%v, %v, %d) = %v, %d, wanted %v, %d", rules, l, at, b, i, is, by)
		}
		if len(rules) != 1 {
			continue
		}
		if want := applies(rules[0], l, at); rule.Applies(rules[0], l, at) != want {
			t.Fatalf("Applies(%v, %v, %d) = %v", rules[0], l, at, !want)
		}
	}
	wantCuts(t, rules, l, boundaries(rules, l))
}

// wantCuts asks for these boundaries.
func wantCuts(t *testing.T, rules []api.Rule, l, want []int) {
	t.Helper()
	if cuts, e := rule.Cuts(rules, l); !slices.Equal(cuts, want) || e != api.OK {
		t.Fatalf("Cuts(%v, %v) = %v, %d, wanted %v", rules, l, cuts, e, want)
	}
}

// wantWrong asks that rules which are not right of 32 say nothing.
func wantWrong(t *testing.T, rules []api.Rule) {
	t.Helper()
	for _, l := range [][]int{nil, {0}, {0, 0}, {0, 1, 2}} {
		for at := -1; at < len(l)+2; at++ {
			if is, by := rule.Decide(rules, l, at); is || by != -1 {
				t.Fatalf("Decide(%v, %v, %d) = %v, %d", rules, l, at, is, by)
			}
			if len(rules) == 1 && rule.Applies(rules[0], l, at) {
				t.Fatalf("Applies(%v, %v, %d)", rules[0], l, at)
			}
		}
		if cuts, e := rule.Cuts(rules, l); len(cuts) != 0 || e != api.ErrRule {
			t.Fatalf("Cuts(%v, %v) = %v, %d", rules, l, cuts, e)
		}
	}
}

// wrongRules are rules that are right of no number of names.
func wrongRules() []api.Rule {
	right := []api.Item{{Set: 1}, {Set: 0, How: 1}}
	l := []api.Rule{
		{Right: api.Pattern{Start: true}},
		{Left: api.Pattern{Start: true}, Right: api.Pattern{Start: true}},
		{Right: api.Pattern{Start: true, Items: right}, Break: true},
		{Left: api.Pattern{Items: make([]api.Item, 11)}},
		{Right: api.Pattern{Items: make([]api.Item, 11)}},
	}
	for _, x := range []api.Item{{Set: -1}, {Set: 1 << 32}, {Set: math.MaxInt64}, {Set: math.MinInt64}, {How: -1}, {How: 3}, {How: math.MaxInt}} {
		for _, items := range [][]api.Item{{x}, append(slices.Clone(right), x), append([]api.Item{x}, right...)} {
			p := api.Pattern{Items: items}
			l = append(l, api.Rule{Left: p}, api.Rule{Right: p}, api.Rule{Left: p, Right: p, Break: true})
		}
	}
	return l
}

// P11.1: of how many names rules are right, by the greatest class of either side, and none.
func TestRight(t *testing.T) {
	for n := -70; n < 70; n++ {
		ok := n >= 1 && n <= 32
		for _, l := range [][]api.Rule{nil, {}, {{}}, {{Left: api.Pattern{Start: true}, Break: true}}, make([]api.Rule, 40)} {
			if rule.Right(l, n) != ok {
				t.Error(n, l)
			}
		}
		for c := range 34 {
			p := api.Pattern{Items: []api.Item{{Set: 1 << c}}}
			for _, x := range []api.Rule{{Left: p}, {Right: p}, {Left: p, Right: p, Break: true}} {
				for _, l := range [][]api.Rule{{x}, {{}, x}, {x, {}}, {x, x}} {
					if rule.Right(l, n) != (ok && c < n) {
						t.Error(n, c, l)
					}
				}
			}
		}
	}
	for _, n := range []int{math.MinInt, -1 << 32, 1 << 32, 1<<32 + 1, math.MaxInt} {
		if rule.Right(nil, n) || rule.Right([]api.Rule{{}}, n) {
			t.Error(n)
		}
	}
}

// P11.1: rules that are wrong, each at each place among right ones, and too many.
func TestWrongRules(t *testing.T) {
	for _, x := range wrongRules() {
		for k := range 4 {
			for at := range k + 1 {
				l := slices.Insert(make([]api.Rule, k), at, x)
				if rule.Right(l, 32) || rule.Right(l, 1) {
					t.Fatal(l)
				}
				wantWrong(t, l)
			}
		}
		l := slices.Insert(make([]api.Rule, 39), 39, x)
		if rule.Right(l, 32) {
			t.Fatal(l)
		}
		wantWrong(t, l)
	}
	for _, k := range []int{41, 42, 80, 81, 256, 1 << 16} {
		if rule.Right(make([]api.Rule, k), 32) {
			t.Error(k)
		}
		wantWrong(t, make([]api.Rule, k))
	}
}

// P11.1: a rule may have ten items at each side, and there may be forty.
func TestMost(t *testing.T) {
	for k := range 11 {
		items := make([]api.Item, k)
		for i := range items {
			items[i] = api.Item{Set: 1<<32 - 1}
		}
		x := api.Rule{Left: api.Pattern{Items: items}, Right: api.Pattern{Items: items}}
		for n := range 24 {
			wantJudged(t, []api.Rule{x}, make([]int, n))
		}
	}
	never := api.Rule{Left: api.Pattern{Items: []api.Item{{}}}}
	for k := range 41 {
		l := make([]api.Rule, k, 40)
		for i := range l {
			l[i] = never
		}
		wantJudged(t, l, []int{0, 0, 0})
		if k < 40 {
			wantJudged(t, append(l, api.Rule{}), []int{0, 0, 0})
		}
	}
}

// P11.1: the document's examples, and others by hand.
func TestByHand(t *testing.T) {
	names := []string{"CR", "LF", "Extend", "RI", "Other"}
	for _, x := range []struct {
		text string
		l    []int
		want []int
	}{
		{"CR + LF\n. / .\n", []int{0, 1, 1}, []int{0, 2, 3}},
		{"CR + LF\n. / .\n", nil, []int{0}},
		{"CR + LF\n. / .\n", []int{0}, []int{0, 1}},
		{"", []int{0, 1, 1}, []int{0, 1, 2, 3}},
		{"+\n", []int{0, 1, 1}, []int{0, 3}},
		{"/\n", []int{0, 1, 1}, []int{0, 1, 2, 3}},
		{"/\n+\n", []int{0, 1, 1}, []int{0, 1, 2, 3}},
		{"+\n/\n", []int{0, 1, 1}, []int{0, 3}},
		{"^ RI** RI + RI\n", []int{3, 3, 3, 3, 3}, []int{0, 2, 4, 5}},
		{"^ RI** RI + RI\n[^RI] RI** RI + RI\n", []int{3, 3, 3, 4, 3, 3, 3}, []int{0, 2, 3, 4, 6, 7}},
		{"^ RI** RI + RI\n[^RI] RI** RI + RI\n", []int{3, 3, 3, -9, 3, 3, 3}, []int{0, 2, 3, 4, 5, 6, 7}},
		{"+ Extend\n", []int{2, 2, 4, 2, 0}, []int{0, 2, 4, 5}},
		{"^ CR + \n", []int{0, 0, 0}, []int{0, 2, 3}},
		{"^ + \n", []int{0, 0, 0}, []int{0, 1, 2, 3}},
		{"[^CR]* + LF LF\n", []int{0, 1, 1, 1}, []int{0, 3, 4}},
		{"[] + \n+ []\n", []int{0, 1}, []int{0, 1, 2}},
	} {
		rules, line, e := rule.Parse(x.text, names)
		if line != 0 || e != api.OK {
			t.Fatal(x.text, line, e)
		}
		wantCuts(t, rules, x.l, x.want)
		wantJudged(t, rules, x.l)
	}
}

// P11.1: all rules of few items, one alone, at all places of lists, numbers that are no classes in them.
func TestOneRule(t *testing.T) {
	lists := rowsOf(4, 0, 1, -1)
	for _, x := range rulesOf(2, 1, itemsOf(1, 3)...) {
		for _, l := range lists {
			wantJudged(t, []api.Rule{x}, l)
		}
	}
	lists = append(rowsOf(3, 0, 32), []int{0, 0, 0, 0, 0, 0}, []int{0, 1, 0, 1, 0, 1}, []int{1, 0, 0, 0, 0, 0, 1})
	for _, x := range rulesOf(1, 2, itemsOf(1, 2, 1<<32-1)...) {
		for _, l := range lists {
			wantJudged(t, []api.Rule{x}, l)
		}
	}
}

// P11.1, P11.3: of several rules the first one that applies says it.
func TestRules(t *testing.T) {
	all := rulesOf(2, 2, itemsOf(1, 2, 6)...)
	for seed := range 4000 {
		rules := picked(all, mixed(seed, seed%7, len(all)))
		wantJudged(t, rules, mixed(seed+1, seed%13, 4))
	}
}

// P11.1: numbers that are no classes are in no set, far ones too, and the class 31 is one.
func TestOddNumbers(t *testing.T) {
	whole := api.Pattern{Items: []api.Item{{Set: 1<<32 - 1}}}
	for _, c := range []int{31, 30, 32, 33, 63, 64, 96, -1, -31, -32, -33, 1 << 31, 1 << 32, -1 << 32, math.MaxInt, math.MinInt} {
		for _, x := range []api.Rule{{Left: whole}, {Right: whole}, {Left: whole, Right: whole}} {
			for _, l := range [][]int{{c, 0}, {0, c}, {c, c}, {0, c, 0}, {c, 31, c}} {
				wantJudged(t, []api.Rule{x}, l)
			}
		}
	}
}

// P11.1: lists that are long.
func TestLongLists(t *testing.T) {
	n := 1 << 16
	l := make([]int, n)
	for i := range l {
		l[i] = i % 3
	}
	rules := []api.Rule{
		{Left: api.Pattern{Start: true, Items: []api.Item{{Set: 1}}}},
		{Left: api.Pattern{Items: []api.Item{{Set: 1}, {Set: 2}}}, Right: api.Pattern{Items: []api.Item{{Set: 7, How: 1}}}},
		{Right: api.Pattern{Items: []api.Item{{Set: 1}, {Set: 2, How: 2}}}, Break: true},
		{},
	}
	want := []int{0}
	for at := 3; at < n; at += 3 {
		want = append(want, at)
	}
	wantCuts(t, rules, l, append(want, n))
	wantCuts(t, nil, l[:3], []int{0, 1, 2, 3})
	for at := 1; at < n; at += n/7 + 1 {
		by := []int{2, 3, 1}[at%3]
		if at == 1 {
			by = 0
		}
		if is, i := rule.Decide(rules, l, at); is != (by == 2) || i != by {
			t.Error(at, is, i)
		}
	}
}

// P11.1: rules are the same, if each is, right or not.
func TestSame(t *testing.T) {
	all := append(rulesOf(1, 1, itemsOf(1, 2)...), wrongRules()...)
	for i, x := range all {
		for j, y := range all {
			want := i == j
			if rule.Same([]api.Rule{x}, []api.Rule{y}) != want {
				t.Fatal(x, y)
			}
			if rule.Same([]api.Rule{{}, x}, []api.Rule{{}, y}) != want || rule.Same([]api.Rule{x, {}}, []api.Rule{y, {}}) != want {
				t.Fatal(x, y)
			}
		}
		if rule.Same([]api.Rule{x}, nil) || rule.Same(nil, []api.Rule{x}) || rule.Same([]api.Rule{x}, []api.Rule{x, x}) || rule.Same([]api.Rule{x, x}, []api.Rule{x}) {
			t.Fatal(x)
		}
	}
	if !rule.Same(nil, []api.Rule{}) || !rule.Same([]api.Rule{}, nil) || !rule.Same(make([]api.Rule, 50), make([]api.Rule, 50)) {
		t.Error("none, or many")
	}
	if rule.Same([]api.Rule{{}, {Break: true}}, []api.Rule{{Break: true}, {}}) {
		t.Error("another order")
	}
	none, empty := api.Rule{}, api.Rule{Left: api.Pattern{Items: []api.Item{}}, Right: api.Pattern{Items: []api.Item{}}}
	if !rule.Same([]api.Rule{none}, []api.Rule{empty}) {
		t.Error("nil and empty")
	}
}

// R3: what is handed in stays, spare room too, and boundaries are new memory.
func TestListsStay(t *testing.T) {
	items := []api.Item{{Set: 1}, {Set: 2, How: 1}, {Set: 4}, {Set: 8}}
	kept := slices.Clone(items)
	room := []api.Rule{
		{Left: api.Pattern{Items: items[:2]}, Right: api.Pattern{Items: items[1:2]}},
		{Left: api.Pattern{Items: items[1:1]}, Right: api.Pattern{Items: items[:1]}},
		{Break: true},
		{Break: true},
	}
	rules := slices.Clone(room)
	l := []int{0, 1, 2, 0, 9, 9}
	a, _ := rule.Cuts(room[:2], l[:4])
	b, _ := rule.Cuts(room[:2], l[:4])
	want := slices.Clone(a)
	rule.Decide(room[:2], l[:4], 2)
	rule.Applies(room[0], l[:4], 2)
	rule.Right(room[:2], 3)
	rule.Print(room[:2], []string{"A", "B", "C"})
	a = append(a[:len(a):cap(a)], 77)
	for i := range a {
		a[i] = 77
	}
	if !slices.Equal(b, want) || !slices.Equal(l, []int{0, 1, 2, 0, 9, 9}) || !rule.Same(room, rules) || !slices.Equal(items, kept) {
		t.Error(a, b, l, room)
	}
}
