package text

import (
	"iter"

	"virama/api"
	"virama/fault"
	"virama/mend"
	"virama/seg"
	"virama/trie"
)

// areRight tells whether tables are right.
func areRight(t api.Tables) bool {
	// No numbers at all are cut, if the rules and the machine are right, and there may be as many classes.
	_, e := seg.Cuts(t.Rules, t.Machine, t.Classes, nil)
	return e == api.OK && trie.Right(t.Props)
}

// classOf tells a scalar's class. One that is known is not asked for again, as each time the whole trie is held to be right.
func classOf(props api.Trie) func(r rune) int {
	known := map[rune]int{}
	return func(r rune) int {
		c, met := known[r]
		if !met {
			c = trie.Value(props, int(r))
			known[r] = c
		}
		return c
	}
}

// cutter cuts a mended text by its tables.
type cutter struct {
	api.Tables
	text   string
	begins []int // where each scalar begins, and, last, where the text ends
	list   []int // each scalar's class
}

// take has the cutter cut by tables.
func (c *cutter) take(t api.Tables) step {
	return func() error {
		if !areRight(t) {
			return fault.In("tables", api.ErrTables)
		}
		c.Tables = t
		return nil
	}
}

// read has the cutter cut a text, once it has tables.
func (c *cutter) read(s string) step {
	return func() error {
		if len(s) > api.MaxText {
			return fault.In("text", api.ErrText)
		}
		c.text = mend.Repair(s)
		class := classOf(c.Props)
		for at, r := range c.text {
			c.begins = append(c.begins, at)
			c.list = append(c.list, class(r))
		}
		c.begins = append(c.begins, len(c.text))
		return nil
	}
}

func (c cutter) classes() []int {
	return c.list
}

func (c cutter) cuts() []int {
	// The tables are right, so that nothing can be wrong.
	cuts, _ := seg.Cuts(c.Rules, c.Machine, c.Classes, c.list)
	return cuts
}

// clusters goes through the clusters, each with the place where it begins.
func (c cutter) clusters() iter.Seq2[int, string] {
	return func(yield func(int, string) bool) {
		cuts := c.cuts()
		for i, next := range cuts[1:] {
			from, to := c.begins[cuts[i]], c.begins[next]
			if !yield(from, c.text[from:to]) {
				return
			}
		}
	}
}

func (c cutter) texts() []string {
	var l []string
	for _, s := range c.clusters() {
		l = append(l, s)
	}
	return l
}

func (c cutter) places() []int {
	var l []int
	for at := range c.clusters() {
		l = append(l, at)
	}
	return append(l, len(c.text))
}

// isPlace tells of a text whether one of its clusters begins at a place, or it ends there.
func isPlace(at int) func(cutter) bool {
	return func(c cutter) bool {
		is := at == len(c.text)
	looking:
		for begin := range c.clusters() {
			switch {
			case begin == at:
				is = true
				break looking
			case begin > at:
				break looking
			}
		}
		return is
	}
}

// asked tells something of a text that is cut by tables.
func asked[T any](t api.Tables, s string, what func(cutter) T) (T, error) {
	var c cutter
	var nothing T
	err := inTurn(c.take(t), c.read(s))
	if err != nil {
		goto none
	}
	return what(c), nil
none:
	return nothing, err
}
