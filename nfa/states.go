package nfa

import (
	"iter"
	"math/bits"
)

// set is one of states: the digit of each that is in it is 1.
type set int64

// setOf is the set that these states are in, and no others.
func setOf(l ...int) set {
	var s set
	for _, state := range l {
		s |= 1 << state
	}
	return s
}

// has tells whether a state is in the set.
func (s set) has(state int) bool {
	return s>>state&1 == 1
}

// each goes through the states that are in the set, rising.
func (s set) each() iter.Seq[int] {
	return func(yield func(int) bool) {
		for state := range bits.Len64(uint64(s)) {
			if s.has(state) && !yield(state) {
				return
			}
		}
	}
}
