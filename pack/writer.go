package pack

import (
	"virama/api"
	"virama/fault"
	"virama/trie"
)

// mark is what each pack begins with.
const mark = "VT1"

// laid are bytes, one behind the other.
type laid []byte

func (l *laid) put(b ...byte) {
	*l = append(*l, b...)
}

// putNumber lays a number as so many bytes.
func (l *laid) putNumber(bytes, n int) {
	p := parted(n)
	if bytes == wide {
		l.put(p.greater())
	}
	l.put(p.rest())
}

// putRuns lays runs, each number as so many bytes.
func (l *laid) putRuns(bytes int, all ...run) {
	for _, x := range all {
		l.putNumber(bytes, x[0]-1)
		l.putNumber(bytes, x[1])
	}
}

// block is a block's values.
type block [api.BlockSize]int

// writer lays the parts of a trie into its bytes.
type writer struct {
	laid
	known map[block]laid // what blocks that were met are packed as
}

// putBlock lays a block. Those that were met have not to be gone through again.
func (w *writer) putBlock(b block) {
	p, met := w.known[b]
	if !met {
		p.putRuns(narrow, Runs(b[:])...)
		w.known[b] = p
	}
	w.put(p...)
}

// packed tells the bytes that a trie is packed as.
func packed(t api.Trie) (string, error) {
	w := writer{known: map[block]laid{}}
	switch {
	case !trie.Right(t):
		return "", fault.In("trie", api.ErrTrie)
	case len(t.Blocks) > api.MaxBlocks:
		return "", fault.In("blocks", api.ErrPack)
	}
	w.put([]byte(mark)...)
	w.putNumber(wide, len(t.Blocks))
	for _, b := range t.Blocks {
		w.putBlock(block(b))
	}
	w.putRuns(wide, Runs(t.Index)...)
	w.putNumber(wide, Sum(string(w.laid)))
	return string(w.laid), nil
}
