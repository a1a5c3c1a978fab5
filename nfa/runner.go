package nfa

import (
	"iter"

	"virama/api"
	"virama/class"
	"virama/pattern"
)

// mostClasses is how many classes there are at most, as many as a range has values.
const mostClasses = api.MaxValue + 1

// far is by how often an item stands: how far a class leads from the state in which the item may go on.
var far = [...]int{api.Once: 2, api.Any: 0, api.Pairs: 1}

// way tells where a class leads from a state of an item, and whether it leads anywhere.
type way func(state, c int) (int, bool)

// wayOf is how an item steps.
func wayOf(x api.Item) way {
	return func(state, c int) (int, bool) {
		switch {
		case !class.Has(x.Set, c):
			return 0, false
		case state%2 == 1:
			return state - 1, true
		}
		return state + far[x.How], true
	}
}

// runner steps sets of states of its pattern, that is right.
type runner struct {
	api.Pattern
	ways map[api.Item]way // those that were asked for: items that are the same step alike
}

func runnerOf(p api.Pattern) (runner, error) {
	if !pattern.Right(p, mostClasses) {
		return runner{}, errPattern
	}
	return runner{p, map[api.Item]way{}}, nil
}

// way is how an item of the pattern steps.
func (r runner) way(x api.Item) way {
	w, ok := r.ways[x]
	if !ok {
		w = wayOf(x)
		r.ways[x] = w
	}
	return w
}

// last is the state in which all items have fitted.
func (r runner) last() int {
	return 2 * len(r.Items)
}

// most is the set of all numbers up to the last state's, be they states of the pattern or not.
func (r runner) most() set {
	return setOf(r.last()+1) - 1
}

// knows tells whether a set is one of numbers up to the last state's.
func (r runner) knows(s set) bool {
	return 0 <= s && s <= r.most()
}

// number is a set, as callers know it.
func (r runner) number(s set) int64 {
	return int64(s)
}

// done tells whether the last state is in a set.
func (r runner) done(s set) bool {
	return s.has(r.last())
}

// closed is the set of these states, and of those that are reached where items need not stand.
func (r runner) closed(l ...int) set {
	s := setOf(l...)
	for i, x := range r.Items {
		if s.has(2*i) && x.How != api.Once {
			s |= setOf(2*i + 2)
		}
	}
	return s
}

// first is the set of states ahead of all classes.
func (r runner) first() set {
	return r.closed(0)
}

// step is what a class makes of a set.
func (r runner) step(s set, c int) set {
	var next []int
	if !r.Start {
		// The pattern may begin behind any class.
		next = append(next, 0)
	}
going:
	for state := range s.each() {
		switch {
		case state == r.last():
			// No item is left that could step.
			break going
		default:
			if to, ok := r.way(r.Items[state/2])(state, c); ok {
				next = append(next, to)
			}
		}
	}
	return r.closed(next...)
}

// sets goes through the first set, and that behind each class.
func (r runner) sets(l ...int) iter.Seq[set] {
	return func(yield func(set) bool) {
		s := r.first()
		if !yield(s) {
			return
		}
		for _, c := range l {
			s = r.step(s, c)
			if !yield(s) {
				return
			}
		}
	}
}

// first tells the first set of a pattern.
func first(p api.Pattern) (set, error) {
	r, err := runnerOf(p)
	if err != nil {
		return 0, err
	}
	return r.first(), nil
}

// stepped tells what a class makes of a set.
func stepped(p api.Pattern, s set, c int) (set, error) {
	r, err := runnerOf(p)
	if err != nil {
		goto none
	}
	if !r.knows(s) {
		err = errStates
		goto none
	}
	return r.step(s, c), nil
none:
	return 0, err
}

// told tells something of the first set, and of that behind each class.
func told[T any](p api.Pattern, what func(runner, set) T, l ...int) ([]T, error) {
	r, err := runnerOf(p)
	if err != nil {
		return nil, err
	}
	all := make([]T, 0, len(l)+1)
	for s := range r.sets(l...) {
		all = append(all, what(r, s))
	}
	return all, nil
}
