package pattern

import (
	"iter"
	"slices"

	"virama/api"
	"virama/class"
)

// fitted is how far items may have fitted numbers.
type fitted struct {
	next [api.MaxItems + 1]bool // by item: those ahead of it have fitted, it may go on; the place behind the last one: all have
	half [api.MaxItems]bool     // by item: of it, that is Pairs, one more has fitted
}

// matcher goes through its numbers one by one, and knows how far its items may have fitted.
// It follows all ways at once: trying one way behind the other may take ten nested goings through the list.
type matcher struct {
	numbers
	items   []api.Item
	ahead   fitted            // ahead of the number that it is at
	behind  fitted            // behind it
	fitting map[int]func(int) // by how often an item stands: how it fits the number that it is at
}

func matcherOf(n numbers, items ...api.Item) *matcher {
	m := &matcher{numbers: n, items: items}
	m.fitting = map[int]func(int){api.Once: m.once, api.Any: m.any, api.Pairs: m.pairs}
	return m
}

// forth holds items against numbers from the first one on.
func forth(items []api.Item, l ...int) *matcher {
	return matcherOf(numbers{list: l}, items...)
}

// back holds items against numbers from the last one on, so that it may stop soon, however many there are.
func back(items []api.Item, l ...int) *matcher {
	turned := slices.Clone(items)
	slices.Reverse(turned)
	return matcherOf(numbers{list: l, back: true}, turned...)
}

func (m *matcher) once(i int) {
	if m.ahead.next[i] {
		m.behind.next[i+1] = true
	}
}

func (m *matcher) any(i int) {
	if m.ahead.next[i] {
		m.behind.next[i] = true
	}
}

func (m *matcher) pairs(i int) {
	if m.ahead.next[i] {
		m.behind.half[i] = true
	}
	if m.ahead.half[i] {
		m.behind.next[i] = true
	}
}

// passOver lets the items go on that stand behind some which need not stand.
func (m *matcher) passOver() {
	for i, x := range m.items {
		if m.behind.next[i] && x.How != api.Once {
			m.behind.next[i+1] = true
		}
	}
}

// begin stands ahead of all numbers.
func (m *matcher) begin() {
	m.behind = fitted{}
	m.behind.next[0] = true
	m.passOver()
}

// take goes on by a number.
func (m *matcher) take(c int) {
	m.ahead, m.behind = m.behind, fitted{}
	for i, x := range m.items {
		if class.Has(x.Set, c) {
			m.fitting[x.How](i)
		}
	}
	m.passOver()
}

// places goes through the places of the numbers, each of which stands ahead of as many numbers as it says: the matcher stands there meanwhile.
func (m *matcher) places() iter.Seq[int] {
	return func(yield func(int) bool) {
		at := 0
		m.begin()
		for c := range m.each() {
			if !yield(at) {
				return
			}
			m.take(c)
			at++
		}
		yield(at)
	}
}

// fits tells whether some of the numbers, from the first one that is gone through on, fit the items; if whole, whether all do.
func (m *matcher) fits(whole bool) bool {
going:
	for at := range m.places() {
		switch {
		case m.behind == fitted{}:
			// No number that comes changes that.
			break going
		case m.behind.next[len(m.items)] && (!whole || at == m.size()):
			return true
		}
	}
	return false
}
