package width

import (
	"iter"
	"slices"

	"virama/api"
	"virama/scalar"
	"virama/trie"
)

// The names' values.
const (
	valueN = iota
	valueA
	valueH
	valueW
	valueF
	valueNa
	valueZ
)

// How wide the widest scalars and clusters are.
const widest = 2

func names() []string {
	return []string{valueN: "N", valueA: "A", valueH: "H", valueW: "W", valueF: "F", valueNa: "Na", valueZ: "Z"}
}

// areRight tells whether widths are right. Of a trie that is right no block is empty.
func areRight(w api.Widths) bool {
	if !trie.Right(w.Props) {
		return false
	}
	for _, values := range w.Props.Blocks {
		if slices.Max(values) > valueZ {
			return false
		}
	}
	return true
}

// ruler measures by its widths.
type ruler struct {
	api.Widths
	known map[rune]int // how wide those scalars are that were met
}

func rulerOf(w api.Widths) (*ruler, error) {
	if !areRight(w) {
		return nil, errWidth
	}
	return &ruler{w, map[rune]int{}}, nil
}

// columns tells how wide a scalar of that value is.
func (m *ruler) columns(value int) int {
	switch {
	case value == valueW, value == valueF, value == valueA && m.Wide:
		return widest
	case value == valueZ:
		return 0
	}
	return 1
}

// scalar tells how wide a scalar is. One that is known is not asked for again, as each time the whole trie is held to be right.
func (m *ruler) scalar(r rune) int {
	n, met := m.known[r]
	if !met {
		n = m.columns(trie.Value(m.Props, int(r)))
		m.known[r] = n
	}
	return n
}

// cluster tells how wide a well-formed text is.
func (m *ruler) cluster(c string) int {
	n := 0
	asEmoji := false
	for at, r := range c {
		n = max(n, m.scalar(r))
		asEmoji = asEmoji || at > 0 && r == api.Emoji
	}
	if asEmoji && n != 0 {
		return widest
	}
	return n
}

// heads goes through how many of the clusters there are, from the first one on, and how wide these are together.
func (m *ruler) heads(l ...string) iter.Seq2[int, int] {
	return func(yield func(int, int) bool) {
		all := 0
		for i, c := range l {
			all += m.cluster(c)
			if !yield(i+1, all) {
				return
			}
		}
	}
}

// together tells how wide clusters are, all together.
func (m *ruler) together(l ...string) int {
	n := 0
	for _, all := range m.heads(l...) {
		n = all
	}
	return n
}

// within tells of clusters how many of them, from the first one on, are together at most n wide.
func within(n int) func(m *ruler, l ...string) int {
	return func(m *ruler, l ...string) int {
		fits := 0
	fitting:
		for k, all := range m.heads(l...) {
			switch {
			case all <= n:
				fits = k
			default:
				// No cluster takes width away, so that no longer head fits.
				break fitting
			}
		}
		return fits
	}
}

// one tells how wide a scalar is.
func one(w api.Widths, r int) (int, error) {
	m, err := rulerOf(w)
	switch {
	case err != nil:
		return 0, err
	case !scalar.Right(r):
		return 0, errScalar
	}
	return m.scalar(rune(r)), nil
}

// measured tells something of clusters, all of which are well-formed, by widths that are right.
func measured(w api.Widths, what func(m *ruler, l ...string) int, l ...string) (int, error) {
	m, err := rulerOf(w)
	if err != nil {
		goto none
	}
	for _, c := range l {
		if !scalar.Valid(c) {
			err = errUtf
			goto none
		}
	}
	return what(m, l...), nil
none:
	return 0, err
}
