package dfa

import (
	"iter"
	"slices"

	"virama/api"
	"virama/class"
)

// walker goes through its machine, from state 0 on.
type walker struct {
	api.Machine
	classes int
}

func walkerOf(m api.Machine, n int) (walker, error) {
	w := walker{m, n}
	if !w.right() {
		return walker{}, errMachine
	}
	return w, nil
}

// right tells whether the machine is right, and there may be as many classes.
func (w walker) right() bool {
	states := len(w.Next)
	// The set of no classes is right of all numbers of classes that there may be.
	if !class.Right(0, w.classes) || states < 1 || states > api.MaxStates || states != len(w.Fits) {
		return false
	}
	for _, row := range w.Next {
		if len(row) != w.classes+1 || slices.Min(row) < 0 || slices.Max(row) >= states {
			return false
		}
	}
	return slices.Min(w.Fits) >= 0 && slices.Max(w.Fits) < 1<<api.MaxRules
}

// class is how the machine knows a number: all that are no classes are one.
func (w walker) class(c int) int {
	if c < 0 || c >= w.classes {
		return w.classes
	}
	return c
}

// states goes through the state at first, and that behind each number.
func (w walker) states(l ...int) iter.Seq[int] {
	return func(yield func(int) bool) {
		state := 0
		if !yield(state) {
			return
		}
		for _, c := range l {
			state = w.Next[state][w.class(c)]
			if !yield(state) {
				return
			}
		}
	}
}

// state is one that callers ask for themselves.
func (w walker) state(state int) int {
	return state
}

// fits are the rules whose left sides fit in a state.
func (w walker) fits(state int) int64 {
	return w.Fits[state]
}

// told tells something of the state at first, and of that behind each number.
func told[T any](m api.Machine, n int, what func(walker, int) T, l ...int) ([]T, error) {
	w, err := walkerOf(m, n)
	if err != nil {
		return nil, err
	}
	all := make([]T, 0, len(l)+1)
	for state := range w.states(l...) {
		all = append(all, what(w, state))
	}
	return all, nil
}

// reached tells the states to which the one at first leads, and itself, rising.
func reached(m api.Machine, n int) ([]int, error) {
	w, err := walkerOf(m, n)
	if err != nil {
		return nil, err
	}
	states := metWith(0)
	for state := range states.each() {
		for _, to := range w.Next[state] {
			states.number(to)
		}
	}
	slices.Sort(states.all)
	return slices.Clip(states.all), nil
}
