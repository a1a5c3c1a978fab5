package class

import (
	"iter"
	"math/bits"
	"strconv"

	"virama/api"
	"virama/fault"
)

// mostClasses is how many classes there are at most, as many as a range has values.
const mostClasses = api.MaxValue + 1

// classes are those of a set, and of how many.
type classes struct {
	set int64
	n   int
}

// whole is the set that all of n classes are in.
func whole(n int) classes {
	return classes{1<<n - 1, n}
}

// right tells whether there are such classes, and such a set of them.
func (s classes) right() bool {
	return 1 <= s.n && s.n <= mostClasses && 0 <= s.set && s.set <= whole(s.n).set
}

// has tells whether a number is a class, and in the set.
func (s classes) has(c int) bool {
	return 0 <= c && c < s.n && s.set>>c&1 == 1
}

// with is the set that has a class more. It is the same one, if the class was in it.
func (s classes) with(c int) classes {
	return classes{s.set | 1<<c, s.n}
}

// not is the set of the classes that are not in this one.
func (s classes) not() classes {
	return classes{whole(s.n).set &^ s.set, s.n}
}

// count tells how many classes are in the set.
func (s classes) count() int {
	return bits.OnesCount64(uint64(s.set))
}

// each goes through the classes that are in the set, rising.
func (s classes) each() iter.Seq[int] {
	return func(yield func(int) bool) {
		for c := range s.n {
			if s.has(c) && !yield(c) {
				return
			}
		}
	}
}

// classesOf tells the set that these are in, and no others.
func classesOf(l ...int) (classes, error) {
	s := classes{0, mostClasses}
	for _, c := range l {
		if c < 0 || c >= s.n {
			return classes{}, fault.In("class "+strconv.Itoa(c), api.ErrClass)
		}
		s = s.with(c)
	}
	return s, nil
}
