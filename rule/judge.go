package rule

import (
	"iter"

	"virama/api"
	"virama/fault"
	"virama/pattern"
)

// mostClasses is how many classes there are at most, as many as a range has values.
const mostClasses = api.MaxValue + 1

// nobody is which rule says it, where none does.
const nobody = -1

// rules are the caller's, and are only read.
type rules []api.Rule

// each goes through the rules, each with its number.
func (r rules) each() iter.Seq2[int, api.Rule] {
	return func(yield func(int, api.Rule) bool) {
		for i, x := range r {
			if !yield(i, x) {
				return
			}
		}
	}
}

// right tells whether the rules are right ones of n names, and no more than there may be.
func (r rules) right(n int) bool {
	if n < 1 || n > mostClasses || len(r) > api.MaxRules {
		return false
	}
	for _, x := range r.each() {
		if !pattern.Right(x.Left, n) || !pattern.Right(x.Right, n) || x.Right.Start {
			return false
		}
	}
	return true
}

// judge says by its rules, that are right, where its list has boundaries.
type judge struct {
	rules
	list []int
}

func judgeOf(list []int, l ...api.Rule) (judge, error) {
	j := judge{l, list}
	if !j.right(mostClasses) {
		return judge{}, fault.In("rules", api.ErrRule)
	}
	return j, nil
}

// isPlace tells whether rules say something of a place: at both ends of a list there is a boundary without them.
func (j judge) isPlace(at int) bool {
	return 1 <= at && at < len(j.list)
}

// decide tells what the first rule says that applies at a place, and which one that is.
func (j judge) decide(at int) (bool, int) {
	is, by := true, nobody
judging:
	for i, x := range j.each() {
		switch {
		case !pattern.Ahead(x.Right, j.list, at):
			// This side is asked first, as it never goes back to the start of the list.
			continue judging
		case pattern.Behind(x.Left, j.list, at):
			is, by = x.Break, i
			break judging
		}
	}
	return is, by
}

// decided tells what rules say of a place of a list, and which one says it.
func decided(list []int, at int, l ...api.Rule) (bool, int) {
	j, err := judgeOf(list, l...)
	if err != nil || !j.isPlace(at) {
		return false, nobody
	}
	return j.decide(at)
}

// cut tells the boundaries that a list has by rules.
func cut(list []int, l ...api.Rule) ([]int, error) {
	j, err := judgeOf(list, l...)
	if err != nil {
		return nil, err
	}
	cuts := []int{0}
	for at := 1; j.isPlace(at); at++ {
		if is, _ := j.decide(at); is {
			cuts = append(cuts, at)
		}
	}
	if len(list) > 0 {
		cuts = append(cuts, len(list))
	}
	return cuts, nil
}
