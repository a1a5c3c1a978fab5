package fold_test

import (
	"math"
	"slices"
	"sync"
	"testing"

	"virama/api"
	"virama/fold"
	"virama/trie"
)

// built is a trie of ranges.
func built(t *testing.T, l ...api.Range) api.Trie {
	t.Helper()
	x, e := trie.Build(l)
	if e != api.OK {
		t.Fatal(l, e)
	}
	return x
}

// someCases are right ones, of all sizes of To, of scalars at the ends of all there are; their tries have all values.
func someCases(t *testing.T) api.Cases {
	t.Helper()
	return api.Cases{
		Lower: []api.Mapping{
			{From: 0, To: []int{0x10ffff}},
			{From: 0x41, To: []int{0x61}},
			{From: 0x42},
			{From: 0x43, To: []int{0x43}},
			{From: 0x130, To: []int{0x69, 0x307}},
			{From: 0xd7ff, To: []int{0xe000}},
			{From: 0xe000, To: []int{0xd7ff, 0xe000, 0xd7ff}},
			{From: 0x10ffff, To: []int{0, 0, 0}},
		},
		Title: []api.Mapping{
			{From: 0x42, To: []int{0x62}},
			{From: 0xdf, To: []int{0x53, 0x73}},
			{From: 0x149, To: []int{0x2bc, 0x4e}},
			{From: 0xfffd, To: []int{1, 2, 3}},
			{From: 0x10000, To: []int{}},
		},
		Cased:     built(t, api.Range{From: 0x41, To: 0x5a, Value: 1}, api.Range{From: 0x61, To: 0x7a, Value: 31}, api.Range{From: 0x130, To: 0x150, Value: 0}, api.Range{From: 0xdfff, To: 0x10ffff, Value: 2}),
		Ignorable: built(t, api.Range{From: 0, To: 0x42, Value: 7}, api.Range{From: 0x300, To: 0x36f, Value: 1}, api.Range{From: 0xd7ff, To: 0xd7ff, Value: 16}),
	}
}

// long are n right mappings.
func long(n int) []api.Mapping {
	var l []api.Mapping
	for i := range n {
		l = append(l, api.Mapping{From: 3 * i, To: mixed(i, i%4, 0xd800)})
	}
	return l
}

// P16.2: mappings that are right.
func TestRightMaps(t *testing.T) {
	c := someCases(t)
	for i, l := range [][]api.Mapping{
		nil,
		{},
		{{From: 0}},
		{{From: 0x10ffff}},
		{{From: 0}, {From: 1}},
		{{From: 0, To: []int{}}, {From: 0x10ffff, To: []int{}}},
		{{From: 0xd7ff}, {From: 0xe000}},
		{{From: 5, To: []int{5}}},
		{{From: 5, To: []int{0}}},
		{{From: 5, To: []int{0, 0x10ffff}}},
		{{From: 5, To: []int{0xd7ff, 0xe000, 0xd7ff}}},
		{{From: 5, To: []int{6}}, {From: 6, To: []int{5}}},
		c.Lower,
		c.Title,
		long(599),
		long(600),
	} {
		if !fold.Maps(l) {
			t.Error(i)
		}
		d, e := c, c
		d.Lower, e.Title = l, l
		if !fold.Right(d) || !fold.Right(e) {
			t.Error(i)
		}
		for _, x := range slices.Concat(l, c.Lower, c.Title) {
			if len(l) < 600 || x.From%29 == 0 {
				wantScalar(t, d, x.From)
				wantScalar(t, e, x.From)
			}
		}
	}
}

// wrongMaps are mappings that are not right, each in one way.
func wrongMaps() [][]api.Mapping {
	all := [][]api.Mapping{
		make([]api.Mapping, 2),
		{{From: 5}, {From: 5}},
		{{From: 5}, {From: 4}},
		{{From: 5, To: []int{1}}, {From: 5, To: []int{2}}},
		{{From: 1}, {From: 2}, {From: 3}, {From: 3}},
		{{From: 1}, {From: 2}, {From: 3}, {From: 0}},
		{{From: 0}, {From: 0x10ffff}, {From: 1}},
		{{From: 1, To: []int{1, 2, 3, 4}}},
		{{From: 1, To: make([]int, 5)}},
		{{From: 1}, {From: 2, To: make([]int, 70000)}},
		long(601),
		long(602),
		long(70000),
		make([]api.Mapping, 601),
	}
	for _, r := range oddNumbers() {
		all = append(all, []api.Mapping{{From: r}}, []api.Mapping{{From: 1}, {From: r}}, []api.Mapping{{From: r}, {From: 0x10ffff}})
		for n := 1; n <= 3; n++ {
			for at := range n {
				to := []int{0x61, 0x62, 0x63}[:n]
				to[at] = r
				all = append(all, []api.Mapping{{From: 1, To: to}}, []api.Mapping{{From: 0}, {From: 1, To: to}, {From: 2}})
			}
		}
	}
	// Wrong at each place of many.
	for _, at := range []int{0, 1, 299, 598, 599} {
		l := long(600)
		l[at].To = []int{0xd800}
		m := long(600)
		m[at].From = max(at-1, 0)*3 - 1
		all = append(all, l, m)
	}
	return all
}

// P16.2: mappings that are not right, and cases that have them.
func TestWrongMaps(t *testing.T) {
	c := someCases(t)
	for i, l := range wrongMaps() {
		if fold.Maps(l) {
			t.Error(i)
		}
		d := c
		d.Lower = l
		wantWrong(t, d)
		d = c
		d.Title = l
		wantWrong(t, d)
		if fold.Same(c, d) || fold.Same(d, c) || !fold.Same(d, d) {
			t.Error(i)
		}
	}
}

// P16.2: cases with tries that are not right.
func TestWrongTries(t *testing.T) {
	c := someCases(t)
	if !fold.Right(c) || !fold.Right(cloned(c)) {
		t.Fatal("not right")
	}
	wantWrong(t, api.Cases{})
	wantWrong(t, api.Cases{Lower: c.Lower, Title: c.Title})
	wantWrong(t, api.Cases{Lower: c.Lower, Title: c.Title, Cased: c.Cased})
	wantWrong(t, api.Cases{Lower: c.Lower, Title: c.Title, Ignorable: c.Ignorable})
	if !fold.Right(api.Cases{Cased: c.Cased, Ignorable: c.Ignorable}) {
		t.Error("not right")
	}
	for i, change := range []func(y *api.Trie){
		func(y *api.Trie) { *y = api.Trie{} },
		func(y *api.Trie) { y.Index = nil },
		func(y *api.Trie) { y.Blocks = nil },
		func(y *api.Trie) { y.Index = y.Index[1:] },
		func(y *api.Trie) { y.Index = append(y.Index, 0) },
		func(y *api.Trie) { y.Index[0] = len(y.Blocks) },
		func(y *api.Trie) { y.Index[4351] = len(y.Blocks) },
		func(y *api.Trie) { y.Index[7] = -1 },
		func(y *api.Trie) { y.Index[7] = math.MaxInt },
		func(y *api.Trie) { y.Blocks[1] = y.Blocks[1][1:] },
		func(y *api.Trie) { y.Blocks[1] = append(y.Blocks[1], 0) },
		func(y *api.Trie) { y.Blocks[0] = nil },
		func(y *api.Trie) { y.Blocks = append(y.Blocks, nil) },
		func(y *api.Trie) { y.Blocks[0][0] = -1 },
		func(y *api.Trie) { y.Blocks[0][255] = 32 },
		func(y *api.Trie) { y.Blocks[1][97] = math.MinInt },
		func(y *api.Trie) { y.Blocks = append(y.Blocks, slices.Repeat([]int{32}, 256)) },
	} {
		d := cloned(c)
		change(&d.Cased)
		wantWrong(t, d)
		if fold.Same(c, d) || fold.Same(d, c) || !fold.Same(d, cloned(d)) {
			t.Error(i)
		}
		e := cloned(c)
		change(&e.Ignorable)
		wantWrong(t, e)
		if fold.Same(c, e) || fold.Same(e, c) || fold.Same(d, e) || !fold.Same(e, cloned(e)) {
			t.Error(i)
		}
	}
}

// P16.2: scalars that have a mapping, those next to them, and those that have none.
func TestScalars(t *testing.T) {
	c := someCases(t)
	for _, near := range slices.Concat(c.Lower, c.Title, long(40), []api.Mapping{{From: 0x300}, {From: 0x36f}, {From: 0x7f}, {From: 0x7ff}, {From: 0xdffe}, {From: 0x3ffff}}) {
		for r := near.From - 2; r <= near.From+2; r++ {
			if isScalar(r) {
				wantScalar(t, c, r)
			} else {
				wantNone(t, c, r, api.ErrScalar)
			}
		}
	}
	for r := 0; r <= 0x10ffff; r += 487 {
		if isScalar(r) {
			wantScalar(t, c, r)
		}
	}
	for _, r := range oddNumbers() {
		wantNone(t, c, r, api.ErrScalar)
	}
	for r := 0xd800; r <= 0xdfff; r += 31 {
		wantNone(t, c, r, api.ErrScalar)
	}
	// What is cased is not looked up by what a scalar becomes, nor the other way round.
	for _, x := range []struct {
		r         int
		cased, in bool
	}{{0x40, false, true}, {0x41, true, true}, {0x42, true, true}, {0x43, true, false}, {0x62, true, false}, {0x7b, false, false}, {0x130, false, false}, {0x301, false, true}, {0xd7ff, false, true}, {0xe000, true, false}, {0x10ffff, true, false}} {
		if cased, in, e := fold.Kind(c, x.r); cased != x.cased || in != x.in || e != api.OK {
			t.Errorf("%x: %v, %v, %d", x.r, cased, in, e)
		}
	}
}

// P16.2: mappings of all sizes find each scalar of theirs, and none of others.
func TestManyMappings(t *testing.T) {
	tries := someCases(t)
	for _, n := range []int{0, 1, 2, 3, 4, 5, 7, 8, 16, 17, 100, 600} {
		c := api.Cases{Lower: long(n), Title: long(600 - n), Cased: tries.Cased, Ignorable: tries.Ignorable}
		step := 1 + n/100
		for r := 0; r < 3*n+4; r += step {
			wantScalar(t, c, r)
		}
		wantScalar(t, c, 0x10ffff)
	}
}

// P16.2: right tries that no file makes: any values, blocks that are the same, or that no row has.
func TestOtherTries(t *testing.T) {
	block := func(v int) []int { return slices.Repeat([]int{v}, 256) }
	x := api.Trie{Index: make([]int, 4352)}
	for v := range 32 {
		x.Blocks = append(x.Blocks, block(v), block(0))
	}
	for i := range x.Index {
		x.Index[i] = 61 - i%62
	}
	y := api.Trie{Index: make([]int, 4352), Blocks: [][]int{block(0), block(9)}}
	c := api.Cases{Cased: x, Ignorable: y}
	d := api.Cases{Cased: y, Ignorable: x}
	if !fold.Right(c) || !fold.Right(d) || fold.Same(c, d) {
		t.Fatal("not right")
	}
	for r := 0; r <= 0x10ffff; r += 100 {
		if !isScalar(r) {
			continue
		}
		wantScalar(t, c, r)
		wantScalar(t, d, r)
	}
	// Tries that say the same, and are not the same.
	least, _ := trie.Least(x)
	e := api.Cases{Cased: least, Ignorable: y}
	if fold.Same(c, e) || !fold.Right(e) {
		t.Error("the same")
	}
}

// P16.2: cases are the same, or differ in one thing.
func TestSame(t *testing.T) {
	c := someCases(t)
	if !fold.Same(c, c) || !fold.Same(c, cloned(c)) || !fold.Same(api.Cases{}, api.Cases{}) || !fold.Same(api.Cases{}, api.Cases{Lower: []api.Mapping{}, Title: []api.Mapping{}}) {
		t.Error("not the same")
	}
	empty := cloned(c)
	empty.Lower[2].To = []int{}
	empty.Title[4].To = nil
	if !fold.Same(c, empty) || !fold.Same(empty, c) {
		t.Error("not the same")
	}
	for i, change := range []func(d *api.Cases){
		func(d *api.Cases) { d.Lower = nil },
		func(d *api.Cases) { d.Title = nil },
		func(d *api.Cases) { d.Lower = d.Lower[1:] },
		func(d *api.Cases) { d.Title = d.Title[:4] },
		func(d *api.Cases) { d.Lower = append(d.Lower, api.Mapping{}) },
		func(d *api.Cases) { d.Title = append(d.Title, api.Mapping{From: 0x10ffff}) },
		func(d *api.Cases) { d.Lower[0].From++ },
		func(d *api.Cases) { d.Lower[7].From-- },
		func(d *api.Cases) { d.Title[0].From = -1 },
		func(d *api.Cases) { d.Title[4].From++ },
		func(d *api.Cases) { d.Lower[1].To[0]++ },
		func(d *api.Cases) { d.Lower[7].To[2] = -1 },
		func(d *api.Cases) { d.Lower[7].To = d.Lower[7].To[:2] },
		func(d *api.Cases) { d.Lower[1].To = nil },
		func(d *api.Cases) { d.Lower[2].To = []int{0x42} },
		func(d *api.Cases) { d.Title[3].To[1]++ },
		func(d *api.Cases) { d.Title[3].To = append(d.Title[3].To, 4) },
		func(d *api.Cases) { d.Title[4].To = []int{0x10000} },
		func(d *api.Cases) { d.Lower[0], d.Lower[1] = d.Lower[1], d.Lower[0] },
		func(d *api.Cases) { d.Lower, d.Title = d.Title, d.Lower },
		func(d *api.Cases) { d.Cased, d.Ignorable = d.Ignorable, d.Cased },
		func(d *api.Cases) { d.Cased.Index[3] = 0 },
		func(d *api.Cases) { d.Cased.Index[4351] = -1 },
		func(d *api.Cases) { d.Ignorable.Index[3]++ },
		func(d *api.Cases) { d.Cased.Blocks[0][97]++ },
		func(d *api.Cases) { d.Ignorable.Blocks[1][255]++ },
		func(d *api.Cases) { d.Ignorable.Blocks = append(d.Ignorable.Blocks, nil) },
		func(d *api.Cases) { d.Cased = api.Trie{} },
		func(d *api.Cases) { d.Ignorable = api.Trie{} },
	} {
		d := cloned(c)
		change(&d)
		if sameCases(c, d) {
			t.Fatal("nothing changed:", i)
		}
		if fold.Same(c, d) || fold.Same(d, c) || !fold.Same(d, cloned(d)) || fold.Same(d, api.Cases{}) {
			t.Error(i)
		}
	}
}

// P16.3: whatever cases are, a scalar becomes at most three scalars.
func TestAtMostThree(t *testing.T) {
	made, _ := known{}.wantMade(t, dataLine("0041", "", "0061", ""), "00DF;0041 0042 0043;0053 0073;;", "0041;Cased")
	for _, c := range []api.Cases{made, someCases(t), {Lower: long(600), Title: long(7), Cased: made.Cased, Ignorable: made.Cased}} {
		for r := range 2000 {
			small, e := fold.Lower(c, r)
			title, f := fold.Title(c, r)
			if !areAll(small) || e != api.OK || !areAll(title) || f != api.OK {
				t.Fatalf("%x: %x, %x", r, small, title)
			}
		}
	}
}

// spoilt writes into a list, and into its spare room.
func spoilt[T any](l []T, with T) {
	l = l[:cap(l)]
	for i := range l {
		l[i] = with
	}
}

// R3: what is handed in stays, spare room too.
func TestMemoryHandedIn(t *testing.T) {
	c := someCases(t)
	room := func(l []int) []int {
		return append(slices.Clone(l), 71, 72, 73)[:len(l)]
	}
	for i := range c.Lower {
		c.Lower[i].To = room(c.Lower[i].To)
	}
	for i := range c.Title {
		c.Title[i].To = room(c.Title[i].To)
	}
	c.Lower = append(c.Lower, c.Lower...)[:len(c.Lower)]
	c.Cased.Index = room(c.Cased.Index)
	for i, b := range c.Ignorable.Blocks {
		c.Ignorable.Blocks[i] = room(b)
	}
	was := cloned(c)
	wasMore := clonedMappings(c.Lower[:2*len(c.Lower)])
	for r := range 0x400 {
		fold.Maps(c.Lower)
		fold.Right(c)
		fold.Same(c, c)
		wantScalar(t, c, r)
	}
	if !sameCases(c, was) || !sameMappings(c.Lower[:2*len(c.Lower)], wasMore) {
		t.Error("changed")
	}
	for _, x := range slices.Concat(c.Lower, c.Title, c.Lower[:2*len(c.Lower)]) {
		if n := len(x.To); !slices.Equal(x.To[n:n+3], []int{71, 72, 73}) {
			t.Error(x.From, x.To[:n+3])
		}
	}
	if n := len(c.Cased.Index); !slices.Equal(c.Cased.Index[n:n+3], []int{71, 72, 73}) {
		t.Error("changed")
	}
}

// R3: what is told of a scalar is new memory, spare room too.
func TestMemoryTold(t *testing.T) {
	c := someCases(t)
	was := cloned(c)
	for _, r := range []int{0, 0x41, 0x42, 0x43, 0x61, 0xdf, 0x130, 0xe000, 0xfffd, 0x10000, 0x10ffff} {
		small, _ := fold.Lower(c, r)
		again, _ := fold.Lower(c, r)
		title, _ := fold.Title(c, r)
		spoilt(small, -1)
		spoilt(title, -2)
		if !slices.Equal(again, becomes(was.Lower, r)) {
			t.Errorf("%x: shared", r)
		}
		if !sameCases(c, was) {
			t.Fatalf("%x: changed", r)
		}
		wantScalar(t, c, r)
	}
}

// R3, R4: the parts of what is made share nothing, and nothing is kept from call to call.
func TestMemoryMade(t *testing.T) {
	k := known{}
	data := dataLine("0041", "0041", "0041", "") + dataLine("01C4", "01C4", "01C6", "01C5") + dataLine("0062", "0042", "", "") + dataLine("0063", "0043", "0063", "0043")
	special := "00DF;00DF;0053 0073;0053 0053;\n0130;0069 0307;0069 0307;\n0131;0041 0042 0043;0041 0042 0043;\n00AD;;;\n"
	core := "0041..005A;Cased\n0041..005A;Case_Ignorable\n"
	w, _ := k.wordsOf(data, special, core)
	want := cloned(w.cases())
	for range 3 {
		c, _ := k.wantMade(t, data, special, core)
		d, _ := k.wantMade(t, data, special, core)
		lists := [][]int{c.Cased.Index, c.Ignorable.Index}
		lists = append(append(lists, c.Cased.Blocks...), c.Ignorable.Blocks...)
		for _, x := range slices.Concat(c.Lower, c.Title) {
			lists = append(lists, x.To)
		}
		// Each in turn, so that no later one may have changed.
		for i, l := range lists {
			spoilt(l, -1-i)
			for j, m := range lists[i+1:] {
				if slices.Contains(m, -1-i) {
					t.Fatal("shared:", i, i+1+j)
				}
			}
		}
		title := slices.Clone(c.Title)
		spoilt(c.Lower, api.Mapping{From: -9})
		for i, x := range title {
			if c.Title[i].From != x.From {
				t.Fatal("shared")
			}
		}
		blocks := len(c.Ignorable.Blocks)
		spoilt(c.Cased.Blocks, nil)
		if slices.ContainsFunc(c.Ignorable.Blocks[:blocks], func(b []int) bool { return b == nil }) {
			t.Fatal("shared")
		}
		if !sameCases(d, want) {
			t.Fatal("shared")
		}
	}
}

// R4: calls beside each other answer as they do alone; a file that is wrong leaves nothing behind.
func TestNothingKept(t *testing.T) {
	data := dataLine("0041", "", "0061", "") + dataLine("0042", "", "0062", "")
	k := known{}
	k.wantMade(t, data, "", "")
	k.wantMade(t, data+"x", "", "")
	k.wantMade(t, dataLine("0041", "", "0051", "")+dataLine("0041", "", "", ""), "", "")
	c, _ := k.wantMade(t, dataLine("0041", "", "0071", ""), "", "0041;Cased")
	if len(c.Lower) != 1 || len(c.Title) != 0 {
		t.Error(c.Lower, c.Title)
	}
	var all sync.WaitGroup
	for i := range 8 {
		all.Go(func() {
			small := code(0x61 + i)
			d, file, line, e := fold.Make(dataLine("0041", "", small, ""), "", "0041;Cased")
			l, f := fold.Lower(d, 0x41)
			if file != 0 || line != 0 || e != api.OK || !slices.Equal(l, []int{0x61 + i}) || f != api.OK {
				t.Error(i, file, line, e, l, f)
			}
		})
	}
	all.Wait()
}
