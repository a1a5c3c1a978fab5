package pattern

import "iter"

// numbers are those that a pattern is held against. They are the caller's, and are only read.
type numbers struct {
	list []int
	back bool // whether they are gone through from the last one on
}

func (n numbers) size() int {
	return len(n.list)
}

// each goes through the numbers, in their direction.
func (n numbers) each() iter.Seq[int] {
	return func(yield func(int) bool) {
		for i := range n.list {
			if n.back {
				i = len(n.list) - 1 - i
			}
			if !yield(n.list[i]) {
				return
			}
		}
	}
}

// isPlace tells whether at is a place of a list.
func isPlace(at int, l ...int) bool {
	return 0 <= at && at <= len(l)
}
