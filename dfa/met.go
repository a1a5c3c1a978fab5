package dfa

import "iter"

// met are things, numbered as they were met.
type met[K comparable] struct {
	numbers map[K]int
	all     []K
}

// metWith is that of one thing, which has the number 0.
func metWith[K comparable](first K) met[K] {
	return met[K]{map[K]int{first: 0}, []K{first}}
}

// number is that of a thing; one that was not met yet gets the next number.
func (m *met[K]) number(x K) int {
	n, ok := m.numbers[x]
	if !ok {
		n = len(m.all)
		m.numbers[x] = n
		m.all = append(m.all, x)
	}
	return n
}

// each goes through the things as they are numbered, those too that are met meanwhile.
func (m *met[K]) each() iter.Seq[K] {
	return func(yield func(K) bool) {
		for i := 0; i < len(m.all); i++ {
			if !yield(m.all[i]) {
				return
			}
		}
	}
}
