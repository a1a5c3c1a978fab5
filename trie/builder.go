package trie

import (
	"iter"
	"slices"

	"virama/api"
	"virama/span"
)

// builder lays rows into its trie, one behind the other.
type builder struct {
	api.Trie
	places map[block]int // where in Blocks those stand that were met
}

// place tells where a block stands, and puts it behind the others, if it was not met yet.
func (b *builder) place(x block) int {
	at, met := b.places[x]
	if !met {
		at = len(b.Blocks)
		b.places[x] = at
		b.Blocks = append(b.Blocks, slices.Clone(x[:]))
	}
	return at
}

// least tells the least trie of all rows.
func least(rows iter.Seq2[int, block]) api.Trie {
	b := builder{places: map[block]int{}}
	for _, x := range rows {
		b.Index = append(b.Index, b.place(x))
	}
	// The room that growing left is cut off: the caller has the rows and the blocks alone.
	return api.Trie{
		Index:  b.Index[:len(b.Index):len(b.Index)],
		Blocks: b.Blocks[:len(b.Blocks):len(b.Blocks)],
	}
}

func build(l ...api.Range) (api.Trie, error) {
	if !span.Right(l) {
		return api.Trie{}, errRange
	}
	return least(drawn(l...)), nil
}

func rebuild(t api.Trie) (api.Trie, error) {
	if !Right(t) {
		return api.Trie{}, errTrie
	}
	return least(rows(t)), nil
}
