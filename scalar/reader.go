package scalar

import "iter"

// rest is what of a text is left to be read.
type rest struct {
	text string
}

func (l *rest) left() int {
	return len(l.text)
}

// head has n bytes, fewer if fewer are left.
func (l *rest) head(n int) []byte {
	return []byte(l.text[:min(n, l.left())])
}

func (l *rest) drop(n int) {
	l.text = l.text[n:]
}

// reader goes through what is left of a text.
type reader struct {
	rest
	known map[byte]row // the rows of first bytes that were met, which in one text are few; nil if none are kept
}

func read(s string) *reader {
	return &reader{rest{s}, map[byte]row{}}
}

// row tells the row whose scalars' bytes begin with b, the empty one if none do.
func (d *reader) row(b byte) row {
	w := d.known[b]
	if w != (row{}) {
		return w
	}
	w = rowFrom(b)
	if d.known != nil && w != (row{}) {
		d.known[b] = w
	}
	return w
}

// next tells the scalar whose bytes what is left begins with, and how many these are; it takes none of them.
func (d *reader) next() (int, int, error) {
	var w row
	var bytes []byte
	if d.left() == 0 {
		goto none
	}
	w = d.row(d.text[0])
	bytes = d.head(w.size)
	if w == (row{}) || !w.fits(bytes...) {
		goto none
	}
	return w.join(bytes...), w.size, nil
none:
	return 0, 0, errUtf
}

// scalars goes through the scalars, up to the first place where there is none, which is its last pair.
func (d *reader) scalars() iter.Seq2[int, error] {
	return func(yield func(int, error) bool) {
		for d.left() > 0 {
			r, n, err := d.next()
			d.drop(n)
			if !yield(r, err) || err != nil {
				return
			}
		}
	}
}
