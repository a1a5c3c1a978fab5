package span

import (
	"iter"

	"virama/api"
)

// How many ranges a map has at most.
const mostRanges = 600

// chart is ranges, be they a map or not.
type chart struct {
	list []api.Range
}

// chartOf takes ranges that are the caller's. It has none of their spare room, so nothing can be put there.
func chartOf(l ...api.Range) chart {
	return chart{l[:len(l):len(l)]}
}

// ranges goes through the ranges, each with its place.
func (c chart) ranges() iter.Seq2[int, api.Range] {
	return func(yield func(int, api.Range) bool) {
		for i, x := range c.list {
			if !yield(i, x) {
				return
			}
		}
	}
}

// find tells what the first range says of r that has it.
func (c chart) find(r int) (int, bool) {
	value, found := 0, false
finding:
	for _, x := range c.ranges() {
		if x.From <= r && r <= x.To {
			value, found = x.Value, true
			break finding
		}
	}
	return value, found
}

// right tells whether a map may have that range.
func right(x api.Range) bool {
	return 0 <= x.From && x.From <= x.To && x.To <= api.MaxScalar && 0 <= x.Value && x.Value <= api.MaxValue
}

// checked tells the first range that is not right, or that there are more than a map has.
func (c chart) checked() error {
	var err error
checking:
	for i, x := range c.ranges() {
		if !right(x) {
			err = fault{api.ErrRange, i}
			break checking
		}
	}
	if err == nil && len(c.list) > mostRanges {
		err = fault{api.ErrRange, mostRanges}
	}
	return err
}

// ascends tells whether each range begins behind the one ahead.
func (c chart) ascends() bool {
	for i, x := range c.ranges() {
		if i > 0 && x.From <= c.list[i-1].To {
			return false
		}
	}
	return true
}

func (c chart) isMap() bool {
	return c.checked() == nil && c.ascends()
}

// count tells how many numbers the ranges have, if they are a map.
func (c chart) count() int {
	n := 0
	if !c.isMap() {
		return 0
	}
	for _, x := range c.ranges() {
		n += x.To - x.From + 1
	}
	return n
}

// sorted tells the map of the ranges, or what is wrong first.
func (c chart) sorted() ([]api.Range, error) {
	var m layer
	err := c.checked()
	if err != nil {
		goto none
	}
	for i, x := range c.ranges() {
		if !m.put(x) {
			err = fault{api.ErrLap, i}
			goto none
		}
	}
	return m.list[:len(m.list):len(m.list)], nil
none:
	return nil, err
}
