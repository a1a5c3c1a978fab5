package seg

import "iter"

// side is one of a part's two.
type side int

const (
	begin side = iota
	end
)

// part is one of a list's, which its number tells: from one of its ends on, up to, without, the other.
type part struct {
	number int
	ends   map[side]int
}

// pairs goes through the cuts two by two, each pair with the number of the part between them.
func pairs(cuts []int) iter.Seq2[int, []int] {
	return func(yield func(int, []int) bool) {
		for i := range len(cuts) - 1 {
			if !yield(i, cuts[i:i+2:i+2]) {
				return
			}
		}
	}
}

// areCuts tells whether cuts are a list's, however many numbers it has.
func areCuts(cuts []int) bool {
	if len(cuts) == 0 || cuts[0] != 0 {
		return false
	}
	for _, two := range pairs(cuts) {
		if two[0] >= two[1] {
			return false
		}
	}
	return true
}

// partAt tells the part that a place lies in.
func partAt(cuts []int, at int) (part, error) {
	err := errCuts
	if !areCuts(cuts) {
		goto wrong
	}
	for i, two := range pairs(cuts) {
		if two[0] <= at && at < two[1] {
			return part{i, map[side]int{begin: two[0], end: two[1]}}, nil
		}
	}
	err = errPlace
wrong:
	return part{}, err
}
