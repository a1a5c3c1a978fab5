package pack

import (
	"iter"
	"slices"
	"strings"

	"virama/api"
	"virama/fault"
	"virama/trie"
)

// How many bytes the sum has, and a pack at least: its mark, how many blocks there are, the sum.
const (
	sumBytes   = wide
	leastBytes = len(mark) + wide + sumBytes
)

// left is what of a pack is not read yet.
type left string

// number takes off the number of so many bytes that stands next. There must be so many.
func (l *left) number(bytes int) int {
	var greater byte
	s := *l
	*l = s[bytes:]
	if bytes == wide {
		greater = s[0]
	}
	return joined(greater, s[bytes-1]).number()
}

// reader takes the parts of a trie off a pack.
type reader struct {
	left
}

// runs goes through what stands next, taken as runs with numbers of so many bytes, while there are bytes enough for one.
func (r *reader) runs(bytes int) iter.Seq[run] {
	return func(yield func(run) bool) {
		for len(r.left) >= 2*bytes {
			less := r.number(bytes)
			if !yield(run{less + 1, r.number(bytes)}) {
				return
			}
		}
	}
}

// numbers takes off so many numbers, by their runs.
func (r *reader) numbers(part string, size, bytes int) ([]int, error) {
	var met []run
	l := make([]int, 0, size)
going:
	for x := range r.runs(bytes) {
		if x[0] > size-len(l) {
			break going
		}
		met = append(met, x)
		for range x[0] {
			l = append(l, x[1])
		}
		if len(l) == size {
			break going
		}
	}
	// A run that goes on in the next one is no run: these numbers are packed as other bytes.
	if len(l) < size || !slices.Equal(met, Runs(l)) {
		return nil, fault.In(part, api.ErrPack)
	}
	return l, nil
}

func (r *reader) blocks() ([][]int, error) {
	n := r.number(wide)
	if n > api.MaxBlocks {
		return nil, fault.In("blocks", api.ErrPack)
	}
	all := make([][]int, 0, n)
	for range n {
		b, err := r.numbers("block", api.BlockSize, narrow)
		if err != nil {
			return nil, err
		}
		all = append(all, b)
	}
	return all, nil
}

// opened tells a reader of what stands between the mark and the sum.
func opened(s string) (reader, error) {
	if len(s) < leastBytes || !strings.HasPrefix(s, mark) {
		return reader{}, fault.In("mark", api.ErrPack)
	}
	ahead := s[:len(s)-sumBytes]
	if joined(s[len(s)-2], s[len(s)-1]).number() != Sum(ahead) {
		return reader{}, fault.In("sum", api.ErrSum)
	}
	return reader{left(ahead[len(mark):])}, nil
}

// loaded tells the trie that is packed as these bytes.
func loaded(s string) (api.Trie, error) {
	var t api.Trie
	r, err := opened(s)
	if err != nil {
		goto none
	}
	t.Blocks, err = r.blocks()
	if err != nil {
		goto none
	}
	t.Index, err = r.numbers("index", api.Rows, wide)
	if err != nil {
		goto none
	}
	if r.left != "" || !trie.Right(t) {
		err = fault.In("trie", api.ErrPack)
		goto none
	}
	return t, nil
none:
	return api.Trie{}, err
}
