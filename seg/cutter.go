package seg

import (
	"iter"
	"slices"

	"virama/api"
	"virama/dfa"
	"virama/pattern"
	"virama/rule"
)

// noClass stands for all numbers that are no classes.
const noClass = -1

// cutter finds boundaries by its machine, and by its rules, whose left sides the machine knows.
type cutter struct {
	api.Machine
	classes int
	rules   []api.Rule
}

func cutterOf(m api.Machine, n int, l ...api.Rule) (cutter, error) {
	c := cutter{m, n, l}
	// A machine that is right has a state, so that one of its Fits is the greatest.
	if !rule.Right(l, n) || !dfa.Right(m, n) || slices.Max(c.Fits)>>len(l) != 0 {
		return cutter{}, errMachine
	}
	return c, nil
}

// known is a copy of a list, in which all numbers that are no classes are one.
func (c cutter) known(l []int) []int {
	list := make([]int, len(l))
	copy(list, l)
	for i, x := range list {
		if x < 0 || x >= c.classes {
			list[i] = noClass
		}
	}
	return list
}

// fitting goes through the rules of a set, from the first one on.
func (c cutter) fitting(set int64) iter.Seq[api.Rule] {
	return func(yield func(api.Rule) bool) {
		for i, x := range c.rules {
			if set>>i&1 == 1 && !yield(x) {
				return
			}
		}
	}
}

// told tells of a place within a list whether there is a boundary.
func (c cutter) told(list []int) func(at int) bool {
	// The machine is right, so that nothing can be wrong.
	fits, _ := dfa.Fits(c.Machine, c.classes, list)
	return func(at int) bool {
		for x := range c.fitting(fits[at]) {
			if pattern.Ahead(x.Right, list, at) {
				return x.Break
			}
		}
		return true
	}
}

// places goes through the places of any list, until nobody asks any more.
func places() iter.Seq[int] {
	return func(yield func(int) bool) {
		for at := 0; yield(at); at++ {
		}
	}
}

// cut tells the boundaries that a list has by a machine and its rules.
func cut(m api.Machine, n int, l []int, rules ...api.Rule) ([]int, error) {
	c, err := cutterOf(m, n, rules...)
	if err != nil {
		return nil, err
	}
	var cuts []int
	list := c.known(l)
	isCut := c.told(list)
cutting:
	for at := range places() {
		switch {
		case at == len(list):
			cuts = append(cuts, at)
			break cutting
		case at == 0 || isCut(at):
			cuts = append(cuts, at)
		}
	}
	return cuts, nil
}
