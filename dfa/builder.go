package dfa

import (
	"virama/api"
	"virama/nfa"
	"virama/rule"
)

// sets are those of a state, one of each rule's left side; behind the last rule's they are empty.
type sets [api.MaxRules]int64

func setsOf(l ...int64) sets {
	var s sets
	copy(s[:], l)
	return s
}

// builder lays the states of its rules, that are right, into its machine.
type builder struct {
	api.Machine
	rules   []api.Rule
	classes int
	states  met[sets]
	ways    []int // where each class leads, state by state
}

func builderOf(n int, l ...api.Rule) builder {
	first := make([]int64, 0, len(l))
	for _, x := range l {
		// The left side of a right rule has sets and steps, so that nothing can be wrong.
		set, _ := nfa.First(x.Left)
		first = append(first, set)
	}
	return builder{rules: l, classes: n, states: metWith(setsOf(first...))}
}

// steps tells what each class makes of a state's sets.
func (b *builder) steps(from sets) func(c int) sets {
	return func(c int) sets {
		to := make([]int64, 0, len(b.rules))
		for i, x := range b.rules {
			set, _ := nfa.Step(x.Left, from[i], c)
			to = append(to, set)
		}
		return setsOf(to...)
	}
}

// done is the set of those rules whose left side fits in a state.
func (b *builder) done(at sets) int64 {
	var fits int64
	for i, x := range b.rules {
		if nfa.Done(x.Left, at[i]) {
			fits |= 1 << i
		}
	}
	return fits
}

// isOver tells whether more states were met than there may be.
func (b *builder) isOver() bool {
	return len(b.states.all) > api.MaxStates
}

// build lays state by state, those too that are met meanwhile, and tells whether they are no more than there may be.
func (b *builder) build() bool {
building:
	for at := range b.states.each() {
		step := b.steps(at)
		// The one behind the last class stands for all numbers that are none.
		for c := range b.classes + 1 {
			b.ways = append(b.ways, b.states.number(step(c)))
			if b.isOver() {
				break building
			}
		}
		b.Fits = append(b.Fits, b.done(at))
	}
	return !b.isOver()
}

// rows are the ways, cut into those of each state, without room that is the next one's.
func (b *builder) rows() [][]int {
	rows := make([][]int, len(b.Fits))
	for state := range rows {
		from := state * (b.classes + 1)
		to := from + b.classes + 1
		rows[state] = b.ways[from:to:to]
	}
	return rows
}

// compiled tells the machine of rules.
func compiled(n int, l ...api.Rule) (api.Machine, error) {
	var b builder
	var err error
	if !rule.Right(l, n) {
		err = errRule
		goto none
	}
	b = builderOf(n, l...)
	if !b.build() {
		err = errMachine
		goto none
	}
	b.Next = b.rows()
	return b.Machine, nil
none:
	return api.Machine{}, err
}
