package nfa_test

import (
	"math"
	"slices"
	"testing"

	"virama/api"
	"virama/nfa"
	"virama/pattern"
)

// The document's words, written out again: sets of states are maps of them, and what is closed is so when nothing more comes.

// in tells whether a number is a class, and in a set.
func in(set int64, c int) bool {
	return c >= 0 && c < 32 && set/int64(math.Pow(2, float64(c)))%2 == 1
}

// worth is 2 to the n-th.
func worth(n int) int64 {
	w := int64(1)
	for range n {
		w *= 2
	}
	return w
}

// statesOf are the states of a number.
func statesOf(number int64) map[int]bool {
	states := map[int]bool{}
	for i := 0; number > 0; i++ {
		if number%2 == 1 {
			states[i] = true
		}
		number /= 2
	}
	return states
}

// numberOf is the number of states.
func numberOf(states map[int]bool) int64 {
	var number int64
	for i := range states {
		number += worth(i)
	}
	return number
}

// shut puts states in that are missing in a set that is to be closed.
func shut(p api.Pattern, states map[int]bool) {
	for range p.Items {
		for i, x := range p.Items {
			if states[2*i] && x.How != 0 {
				states[2*i+2] = true
			}
		}
	}
}

// firstOf is the first set.
func firstOf(p api.Pattern) int64 {
	states := map[int]bool{0: true}
	shut(p, states)
	return numberOf(states)
}

// stepOf is what a class makes of a set.
func stepOf(p api.Pattern, number int64, c int) int64 {
	from, to := statesOf(number), map[int]bool{}
	for i, x := range p.Items {
		if !in(x.Set, c) {
			continue
		}
		if from[2*i] && x.How == 0 {
			to[2*i+2] = true
		}
		if from[2*i] && x.How == 1 {
			to[2*i] = true
		}
		if from[2*i] && x.How == 2 {
			to[2*i+1] = true
		}
		if from[2*i+1] {
			to[2*i] = true
		}
	}
	if !p.Start {
		to[0] = true
	}
	shut(p, to)
	return numberOf(to)
}

// mostOf is the set of all numbers from 0 to 2k.
func mostOf(p api.Pattern) int64 {
	states := map[int]bool{}
	for i := 0; i <= 2*len(p.Items); i++ {
		states[i] = true
	}
	return numberOf(states)
}

// itemsOf are all items of some sets.
func itemsOf(sets ...int64) []api.Item {
	var l []api.Item
	for _, set := range sets {
		for how := range 3 {
			l = append(l, api.Item{Set: set, How: how})
		}
	}
	return l
}

// rowsOf are all lists of up to n of some things.
func rowsOf[T any](n int, things ...T) [][]T {
	rows := [][]T{nil}
	for i := 0; i < len(rows); i++ {
		if len(rows[i]) == n {
			continue
		}
		for _, x := range things {
			rows = append(rows, append(slices.Clone(rows[i]), x))
		}
	}
	return rows
}

// both are a pattern of these items, and one with Start.
func both(items ...api.Item) []api.Pattern {
	return []api.Pattern{{Items: items}, {Start: true, Items: items}}
}

// mixed are k numbers below n, mixed by a seed.
func mixed(seed, k, n int) []int {
	l := make([]int, k)
	x := uint32(seed)*2654435761 + 12345
	for i := range l {
		x = x*1664525 + 1013904223
		l[i] = int(x>>10) % n
	}
	return l
}

// mixedPatterns are patterns of k items, of classes below n, mixed by a seed, one without Start and one with it.
func mixedPatterns(seed, k, n int) []api.Pattern {
	items := make([]api.Item, k)
	hows := mixed(seed, k, 3)
	for i := range items {
		for c, x := range mixed(seed*31+i, n, 3) {
			if x > 0 {
				items[i].Set += worth(c)
			}
		}
		items[i].How = hows[i]
	}
	return both(items...)
}

// oddNumbers are no classes.
func oddNumbers() []int {
	l := []int{-1, -2, -31, -32, -33, -64, 32, 33, 34, 63, 64, 65, 127, 128, 256}
	return append(l, 1<<31, 1<<32, 1<<32+1, -1<<32, math.MaxInt, math.MaxInt-1, math.MinInt, math.MinInt+1)
}

// wrongPatterns are right of no number of classes.
func wrongPatterns() []api.Pattern {
	var wrong []api.Item
	for _, set := range []int64{-1, -2, 1 << 32, 1<<32 + 1, 1 << 33, 1 << 62, -1 << 31, -1 << 32, math.MaxInt64, math.MinInt64, math.MinInt64 + 1} {
		for how := range 3 {
			wrong = append(wrong, api.Item{Set: set, How: how})
		}
	}
	for _, how := range []int{-1, -2, 3, 4, 5, 32, 256, 1 << 32, 1<<32 + 1, math.MaxInt, math.MinInt} {
		wrong = append(wrong, api.Item{Set: 1, How: how}, api.Item{How: how})
	}
	var l []api.Pattern
	for k := 1; k <= 10; k++ {
		for i := range k {
			for _, x := range wrong {
				items := slices.Repeat([]api.Item{{Set: 3, How: 1}}, k)
				items[i] = x
				l = append(l, both(items...)...)
			}
		}
	}
	for _, k := range []int{11, 12, 16, 31, 32, 33, 64, 100, 1000, 1 << 20} {
		l = append(l, both(slices.Repeat([]api.Item{{Set: 1, How: 1}}, k)...)...)
	}
	return l
}

// wantStep asks what a class makes of a set.
func wantStep(t *testing.T, p api.Pattern, states int64, c int) {
	t.Helper()
	if s, e := nfa.Step(p, states, c); s != stepOf(p, states, c) || e != api.OK {
		t.Fatalf("Step(%v, %d, %d) = %d, %d, wanted %d", p, states, c, s, e, stepOf(p, states, c))
	}
}

// wantNoStates asks that a set is none of a pattern's.
func wantNoStates(t *testing.T, p api.Pattern, states int64) {
	t.Helper()
	for _, c := range []int{0, 1, 2, 31, 32, -1, math.MinInt} {
		if s, e := nfa.Step(p, states, c); s != 0 || e != api.ErrPattern {
			t.Fatalf("Step(%v, %d, %d) = %d, %d", p, states, c, s, e)
		}
	}
	if nfa.Done(p, states) {
		t.Fatalf("Done(%v, %d)", p, states)
	}
}

// wantDone asks whether a set is done.
func wantDone(t *testing.T, p api.Pattern, states int64) {
	t.Helper()
	if want := statesOf(states)[2*len(p.Items)]; nfa.Done(p, states) != want {
		t.Fatalf("Done(%v, %d) = %v", p, states, !want)
	}
}

// wantRun asks for the sets of a list, and whether they are done: just where the pattern fits behind.
func wantRun(t *testing.T, p api.Pattern, l []int) {
	t.Helper()
	want := []int64{firstOf(p)}
	for i, c := range l {
		want = append(want, stepOf(p, want[i], c))
	}
	run, e := nfa.Run(p, l)
	if !slices.Equal(run, want) || e != api.OK {
		t.Fatalf("Run(%v, %v) = %v, %d, wanted %v", p, l, run, e, want)
	}
	fits, e := nfa.Fits(p, l)
	if len(fits) != len(l)+1 || e != api.OK {
		t.Fatalf("Fits(%v, %v) = %v, %d", p, l, fits, e)
	}
	for at, ok := range fits {
		if ok != pattern.Behind(p, l, at) || ok != nfa.Done(p, run[at]) {
			t.Fatalf("Fits(%v, %v) = %v, at %d", p, l, fits, at)
		}
	}
}

// P10.1: what is right by hand.
func TestByHand(t *testing.T) {
	for _, x := range []struct {
		text        string
		first, most int64
		from        int64
		c           int
		to          int64
		done        bool // whether it is at first
	}{
		{"A B*", 1, 31, 1, 0, 21, false},
		{"A B*", 1, 31, 21, 1, 21, false},
		{"A B*", 1, 31, 4, 1, 21, false},
		{"^ A B*", 1, 31, 4, 1, 20, false},
		{"^ A B*", 1, 31, 16, 1, 0, false},
		{"^ A B*", 1, 31, 20, 2, 0, false},
		{"^ A B*", 1, 31, 0, 0, 0, false},
		{"A B*", 1, 31, 0, 0, 1, false},
		// A set that is handed in is not closed itself.
		{"^ A* B", 5, 31, 1, 1, 0, false},
		{"^ A* B", 5, 31, 5, 1, 16, false},
		{"A** A", 5, 31, 5, 0, 23, false},
		{"^ A** A", 5, 31, 5, 0, 18, false},
		{"^ A** A", 5, 31, 2, 0, 5, false},
		{"^ A** A", 5, 31, 2, 1, 0, false},
		{"A*", 5, 7, 4, 0, 5, true},
		{"^ A*", 5, 7, 4, 0, 0, true},
		{"", 1, 1, 1, 5, 1, true},
		{"", 1, 1, 0, 5, 1, true},
		{"^", 1, 1, 1, 5, 0, true},
		{"^", 1, 1, 0, -1, 0, true},
		{"^ A* B** C*", 85, 127, 85, 1, 8, true},
		{"^ A* B** C*", 85, 127, 85, 2, 64 + 16, true},
		// Behind an item that stands once nothing more is closed.
		{"A* B C*", 5, 127, 5, 1, 5 + 16 + 64, false},
		// A number between, of an item that is not Pairs, goes back to its item, too.
		{"^ A", 1, 7, 2, 0, 1, false},
		{"^ A*", 5, 7, 2, 0, 5, true},
		{"^ A B", 1, 31, 10, 1, 4, false},
		// Numbers that are no class are in no set, be it of all classes.
		{"^ .* .*", 21, 31, 31, 3, 0, true},
		{".* .*", 21, 31, 31, -1, 21, true},
	} {
		p, e := pattern.Parse(x.text, []string{"A", "B", "C"})
		if e != api.OK {
			t.Fatal(x.text, e)
		}
		if s, e := nfa.First(p); s != x.first || e != api.OK || nfa.Done(p, s) != x.done {
			t.Errorf("First of %q: %d, %d", x.text, s, e)
		}
		if s := nfa.Most(p); s != x.most {
			t.Errorf("Most of %q: %d", x.text, s)
		}
		if s, e := nfa.Step(p, x.from, x.c); s != x.to || e != api.OK {
			t.Errorf("Step of %q, %d, %d: %d, %d, wanted %d", x.text, x.from, x.c, s, e, x.to)
		}
	}
}

// P10.1: all patterns of up to two items, all their sets, and some classes and others.
func TestAllSets(t *testing.T) {
	for _, items := range rowsOf(2, itemsOf(0, 1, 2, 3, 6, 1<<31, 1<<32-1)...) {
		for _, p := range both(items...) {
			if s, e := nfa.First(p); s != firstOf(p) || e != api.OK {
				t.Fatalf("First(%v) = %d, %d", p, s, e)
			}
			if nfa.Most(p) != mostOf(p) {
				t.Fatalf("Most(%v) = %d", p, nfa.Most(p))
			}
			for states := range mostOf(p) + 1 {
				wantDone(t, p, states)
				for _, c := range []int{0, 1, 2, 3, 30, 31, 32, 33, -1, 64, 1 << 32, math.MinInt} {
					wantStep(t, p, states, c)
				}
			}
		}
	}
}

// P10.1: patterns of up to ten items, on each state alone, on all, and on mixed ones.
func TestManyItems(t *testing.T) {
	for k := range 11 {
		for seed := range 60 {
			for _, p := range mixedPatterns(seed, k, 4) {
				most := mostOf(p)
				if s, e := nfa.First(p); s != firstOf(p) || e != api.OK || nfa.Most(p) != most {
					t.Fatal(p, s, e)
				}
				l := []int64{0, most}
				for i := range 2*k + 1 {
					l = append(l, worth(i), most-worth(i))
				}
				for _, x := range mixed(seed, 10, 1<<20) {
					l = append(l, int64(x)%(most+1))
				}
				for _, states := range l {
					wantDone(t, p, states)
					for c := -1; c < 5; c++ {
						wantStep(t, p, states, c)
					}
				}
			}
		}
	}
}

// P10.1: each class of the 32, and numbers that are none, which are in no set.
func TestClasses(t *testing.T) {
	for i := range 32 {
		for how := range 3 {
			for _, set := range []int64{worth(i), worth(32) - 1 - worth(i), worth(32) - 1, 0} {
				for _, p := range both(api.Item{Set: set, How: how}) {
					for states := range int64(8) {
						for c := -40; c < 140; c++ {
							wantStep(t, p, states, c)
						}
						for _, c := range oddNumbers() {
							wantStep(t, p, states, c)
						}
					}
				}
			}
		}
	}
	all := api.Pattern{Start: true, Items: []api.Item{{Set: worth(32) - 1, How: 1}}}
	for _, c := range oddNumbers() {
		wantRun(t, all, []int{0, c, 31})
		if s, e := nfa.Step(all, 7, c); s != 0 || e != api.OK {
			t.Fatal(c, s, e)
		}
	}
}

// P10.1: sets that are none of a pattern's, below 0 and past its most.
func TestWrongStates(t *testing.T) {
	for k := range 11 {
		for _, p := range both(slices.Repeat([]api.Item{{Set: 1, How: k % 3}}, k)...) {
			most := mostOf(p)
			for _, states := range []int64{most, most - 1, 0, worth(2 * k)} {
				wantStep(t, p, states, 0)
				wantDone(t, p, states)
			}
			for i := range 62 {
				for d := int64(-2); d <= 2; d++ {
					if states := worth(i) + d; states > most || states < 0 {
						wantNoStates(t, p, states)
					}
					wantNoStates(t, p, -worth(i)-2+d)
					wantNoStates(t, p, -worth(62)+worth(i)+d)
				}
			}
			for _, states := range []int64{-1, most + 1, most + 2, 2 * (most + 1), most + worth(32), most + worth(40), math.MaxInt64, math.MaxInt64 - 1, math.MinInt64, math.MinInt64 + 1, math.MinInt64 + worth(2*k)} {
				wantNoStates(t, p, states)
			}
		}
	}
}

// P10.1, P10.2: a pattern that is not right has no states, no steps, and no runs.
func TestWrongPatterns(t *testing.T) {
	for _, p := range wrongPatterns() {
		if s, e := nfa.First(p); s != 0 || e != api.ErrPattern {
			t.Fatal(p, s, e)
		}
		if nfa.Most(p) != 0 {
			t.Fatal(p)
		}
		for _, states := range []int64{0, 1, 4, 7, 31, -1, math.MaxInt64, math.MinInt64} {
			wantNoStates(t, p, states)
		}
		for _, l := range [][]int{nil, {}, {0}, {-1, 32}} {
			if run, e := nfa.Run(p, l); len(run) != 0 || e != api.ErrPattern {
				t.Fatal(p, run, e)
			}
			if fits, e := nfa.Fits(p, l); len(fits) != 0 || e != api.ErrPattern {
				t.Fatal(p, fits, e)
			}
		}
	}
}

// P10.2: runs by hand.
func TestRunByHand(t *testing.T) {
	for _, x := range []struct {
		text string
		l    []int
		run  []int64
		fits []bool
	}{
		{"A B*", []int{0, 1}, []int64{1, 21, 21}, []bool{false, true, true}},
		{"A B*", nil, []int64{1}, []bool{false}},
		{"A B*", []int{1, 0, 2, 0}, []int64{1, 1, 21, 1, 21}, []bool{false, false, true, false, true}},
		{"^ A B*", []int{1, 0, 1}, []int64{1, 0, 0, 0}, []bool{false, false, false, false}},
		{"^ A B*", []int{0, 1, 7, 1}, []int64{1, 20, 20, 0, 0}, []bool{false, true, true, false, false}},
		{"^ A** A", []int{0, 0, 0, 0}, []int64{5, 18, 5, 18, 5}, []bool{false, true, false, true, false}},
		{"A** B", []int{0, 1, 0, 0, 1}, []int64{5, 7, 21, 7, 7, 21}, []bool{false, false, true, false, false, true}},
		{"^ A** B", []int{0, 1}, []int64{5, 2, 0}, []bool{false, false, false}},
		{"", nil, []int64{1}, []bool{true}},
		{"", []int{5, -5}, []int64{1, 1, 1}, []bool{true, true, true}},
		{"^", []int{5, -5}, []int64{1, 0, 0}, []bool{true, false, false}},
		{"^ .*", []int{2, -1, 2}, []int64{5, 5, 0, 0}, []bool{true, true, false, false}},
		{".*", []int{2, 3, 2}, []int64{5, 5, 5, 5}, []bool{true, true, true, true}},
		{"[] A", []int{0, 0}, []int64{1, 1, 1}, []bool{false, false, false}},
		{"[]** A", []int{0, 0}, []int64{5, 21, 21}, []bool{false, true, true}},
	} {
		p, e := pattern.Parse(x.text, []string{"A", "B", "C"})
		if e != api.OK {
			t.Fatal(x.text, e)
		}
		if run, e := nfa.Run(p, x.l); !slices.Equal(run, x.run) || e != api.OK {
			t.Errorf("Run of %q, %v: %v, %d, wanted %v", x.text, x.l, run, e, x.run)
		}
		if fits, e := nfa.Fits(p, x.l); !slices.Equal(fits, x.fits) || e != api.OK {
			t.Errorf("Fits of %q, %v: %v, %d, wanted %v", x.text, x.l, fits, e, x.fits)
		}
	}
}

// P10.2, P10.3: a run is step by step, and done just where the pattern fits behind, of all small patterns on short lists.
func TestRuns(t *testing.T) {
	short := rowsOf(4, 0, 1, 2, -1)
	for _, items := range rowsOf(2, itemsOf(0, 1, 2, 3, 6)...) {
		for _, p := range both(items...) {
			for _, l := range short {
				wantRun(t, p, l)
			}
		}
	}
}

// P10.2, P10.3: the same of patterns of up to ten items, on longer lists.
func TestMixedRuns(t *testing.T) {
	for k := range 11 {
		for seed := range 100 {
			for _, p := range mixedPatterns(seed, k, 3) {
				wantRun(t, p, mixed(seed+1000, 40, 3))
				wantRun(t, p, mixed(seed+2000, 40, 4))
				wantRun(t, p, slices.Repeat([]int{seed % 3}, 30))
			}
		}
	}
}

// P10.3: steps of two sets together are both's steps together.
func TestStepsTogether(t *testing.T) {
	step := func(p api.Pattern, states int64, c int) int64 {
		s, e := nfa.Step(p, states, c)
		if e != api.OK || s < 0 || s > nfa.Most(p) {
			t.Fatalf("Step(%v, %d, %d) = %d, %d", p, states, c, s, e)
		}
		return s
	}
	for _, items := range rowsOf(2, itemsOf(1, 2, 3)...) {
		for _, p := range both(items...) {
			for c := -1; c < 3; c++ {
				for a := range nfa.Most(p) + 1 {
					for b := range a {
						if step(p, a|b, c) != step(p, a, c)|step(p, b, c) {
							t.Fatal(p, a, b, c)
						}
					}
				}
			}
		}
	}
	for seed := range 100 {
		for _, p := range mixedPatterns(seed, 10, 4) {
			l := mixed(seed, 40, 1<<21)
			for i, a := range l {
				b := l[(i+7)%len(l)]
				if c := i % 5; step(p, int64(a|b), c) != step(p, int64(a), c)|step(p, int64(b), c) {
					t.Fatal(p, a, b, c)
				}
			}
		}
	}
}

// R1: long lists end soon, of as many items as there may be.
func TestLongLists(t *testing.T) {
	for how := range 3 {
		items := slices.Repeat([]api.Item{{Set: 3, How: how}}, 10)
		for _, p := range both(items...) {
			l := mixed(how, 300000, 3)
			run, e := nfa.Run(p, l)
			fits, f := nfa.Fits(p, l)
			if len(run) != len(l)+1 || len(fits) != len(l)+1 || e != api.OK || f != api.OK {
				t.Fatal(p, len(run), len(fits), e, f)
			}
			for i, c := range l {
				if i%37 == 0 && run[i+1] != stepOf(p, run[i], c) || fits[i+1] != nfa.Done(p, run[i+1]) {
					t.Fatal(p, i)
				}
			}
		}
	}
}

// R3: what is handed in stays, spare room too, and what is answered is new memory.
func TestMemory(t *testing.T) {
	items := []api.Item{{Set: 1, How: 2}, {Set: 3, How: 1}, {Set: 7, How: 0}, {Set: 9, How: 1}}
	l := []int{0, 1, 0, 2, 5, 6}
	wereItems, was := slices.Clone(items), slices.Clone(l)
	for _, p := range both(items[:2]...) {
		p.Items = items[:2]
		nfa.First(p)
		nfa.Most(p)
		nfa.Done(p, 16)
		nfa.Step(p, 31, 0)
		a, _ := nfa.Run(p, l[:4])
		b, _ := nfa.Run(p, l[:4])
		f, _ := nfa.Fits(p, l[:4])
		g, _ := nfa.Fits(p, l[:4])
		keptRun, keptFits := slices.Clone(b), slices.Clone(g)
		for i := range a[:cap(a)] {
			a[:cap(a)][i] = -7
		}
		for i := range f[:cap(f)] {
			f[:cap(f)][i] = !keptFits[0]
		}
		if !slices.Equal(b, keptRun) || !slices.Equal(g, keptFits) {
			t.Error(b, g)
		}
		wantRun(t, p, l[:4])
	}
	if !slices.Equal(items, wereItems) || !slices.Equal(l, was) {
		t.Error(items, l)
	}
}

// R4: a call's answer hangs on its arguments alone, whatever was asked ahead of it, or was changed meanwhile.
func TestNothingIsKept(t *testing.T) {
	items := []api.Item{{Set: 1, How: 0}, {Set: 2, How: 1}}
	p := api.Pattern{Items: items}
	for range 2 {
		for _, x := range []api.Item{{Set: 1, How: 0}, {Set: 1, How: 1}, {Set: 2, How: 2}, {Set: 3, How: 0}} {
			items[0] = x
			wantRun(t, p, []int{0, 1, 0, 1, 1})
			wantStep(t, p, 31, 0)
		}
		items[0] = api.Item{Set: 1, How: 3}
		wantNoStates(t, p, 1)
	}
}

// R3: nil and empty lists are one.
func TestNoItemsAndNoNumbers(t *testing.T) {
	for _, start := range []bool{false, true} {
		for _, items := range [][]api.Item{nil, {}} {
			p := api.Pattern{Start: start, Items: items}
			if nfa.Most(p) != 1 || !nfa.Done(p, 1) || nfa.Done(p, 0) {
				t.Error(p)
			}
			wantRun(t, p, nil)
			wantRun(t, p, []int{})
			wantRun(t, p, []int{0, 40})
			wantNoStates(t, p, 2)
		}
	}
}
