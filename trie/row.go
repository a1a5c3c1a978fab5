package trie

import (
	"iter"

	"virama/api"
)

// How many ranges a map has at most.
const mostRanges = 600

// block is what is said of a row's numbers.
type block [api.BlockSize]int

// fits tells whether values are as many and as great as a block's.
func fits(values ...int) bool {
	for _, v := range values {
		if v < 0 || v > api.MaxValue {
			return false
		}
	}
	return len(values) == api.BlockSize
}

// rows goes through the rows of a trie that is right: the first number of each, and what is said of all.
func rows(t api.Trie) iter.Seq2[int, block] {
	return func(yield func(int, block) bool) {
		for i, at := range t.Index {
			if !yield(i*api.BlockSize, block(t.Blocks[at])) {
				return
			}
		}
	}
}

// drawn goes through the rows likewise, of what a map says.
func drawn(l ...api.Range) iter.Seq2[int, block] {
	return func(yield func(int, block) bool) {
		left := l
		for i := range api.Rows {
			var b block
			first := i * api.BlockSize
			b, left = draw(first, left...)
			if !yield(first, b) {
				return
			}
		}
	}
}

// draw tells what a map says of the row that begins with first, and those of its ranges that reach behind the row's end.
func draw(first int, l ...api.Range) (block, []api.Range) {
	var b block
	last := first + api.BlockSize - 1
	for len(l) > 0 && l[0].From <= last {
		for r := max(l[0].From, first); r <= min(l[0].To, last); r++ {
			b[r-first] = l[0].Value
		}
		if l[0].To > last {
			break
		}
		l = l[1:len(l):len(l)]
	}
	return b, l
}

// join puts a range behind a tight map, so that it stays tight.
func join(m []api.Range, x api.Range) []api.Range {
	n := len(m)
	if n == 0 || m[n-1] != (api.Range{From: m[n-1].From, To: x.From - 1, Value: x.Value}) {
		return append(m, x)
	}
	m[n-1].To = x.To
	return m
}

// ranges tells the tight map of all numbers of which a trie says another value than 0.
func ranges(t api.Trie) ([]api.Range, error) {
	var m []api.Range
	var err error
	if !Right(t) {
		return nil, errTrie
	}
going:
	for first, b := range rows(t) {
		for i, v := range b {
			if v != 0 {
				m = join(m, api.Range{From: first + i, To: first + i, Value: v})
			}
		}
		// What comes behind takes none of these away.
		if len(m) > mostRanges {
			m, err = nil, errRange
			break going
		}
	}
	return m[:len(m):len(m)], err
}
