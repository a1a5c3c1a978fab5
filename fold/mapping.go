package fold

import (
	"cmp"
	"slices"

	"virama/api"
	"virama/scalar"
)

// becoming is what scalars become.
type becoming map[int][]int

// mappings tells the same as a list. A map is gone through in any order, and mappings rise.
func (b becoming) mappings() []api.Mapping {
	var l []api.Mapping
	for r, to := range b {
		l = append(l, api.Mapping{From: r, To: to})
	}
	slices.SortFunc(l, func(x, y api.Mapping) int {
		return cmp.Compare(x.From, y.From)
	})
	return l
}

func areScalars(l ...int) bool {
	for _, r := range l {
		if !scalar.Right(r) {
			return false
		}
	}
	return true
}

// areFew tells whether a scalar may become these.
func areFew(l []int) bool {
	return len(l) <= api.MaxTo && areScalars(l...)
}

// areMaps tells whether mappings are right.
func areMaps(l []api.Mapping) bool {
	if len(l) > api.MaxMaps {
		return false
	}
	last := -1
	for _, x := range l {
		if x.From <= last || !areScalars(x.From) || !areFew(x.To) {
			return false
		}
		last = x.From
	}
	return true
}

// become tells what a scalar becomes by right mappings.
func become(l []api.Mapping, r int) []int {
	at, found := slices.BinarySearchFunc(l, r, func(x api.Mapping, r int) int {
		return cmp.Compare(x.From, r)
	})
	if !found {
		return []int{r}
	}
	// A copy, as the caller's list is not handed out again.
	to := make([]int, len(l[at].To))
	copy(to, l[at].To)
	return to
}

func sameMapping(x, y api.Mapping) bool {
	return x.From == y.From && slices.Equal(x.To, y.To)
}
