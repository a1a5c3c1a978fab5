package pack

import "iter"

// run is how many numbers one behind the other are the same, and which.
type run = [2]int

// runs goes through the runs of numbers.
func runs(l ...int) iter.Seq[run] {
	return func(yield func(run) bool) {
		from := 0
		for i, n := range l {
			if i+1 < len(l) && l[i+1] == n {
				continue
			}
			if !yield(run{i + 1 - from, n}) {
				return
			}
			from = i + 1
		}
	}
}
