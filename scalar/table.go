package scalar

// Every byte behind the first one has the mark 10 and six digits, whatever its row.
const (
	tailMark   = 0x80
	tailDigits = 6
	tailMask   = 1<<tailDigits - 1
)

// span is from one byte to another one, both in it.
type span struct {
	low, high byte
}

// tail has all bytes of that mark.
func tail() span {
	return span{tailMark, tailMark | tailMask}
}

func (p span) has(b byte) bool {
	return p.low <= b && b <= p.high
}

// row is one of the table. Third and fourth bytes are the same in all rows, so no row tells them.
type row struct {
	ends   complex128 // its first scalar, and its last one
	size   int        // how many bytes its scalars have
	first  span
	second span
}

// table is a function, as ends are made of floats, which do not stand at package level.
func table() [9]row {
	return [9]row{
		{complex(0x0, 0x7f), 1, span{0x00, 0x7f}, span{}},
		{complex(0x80, 0x7ff), 2, span{0xc2, 0xdf}, tail()},
		{complex(0x800, 0xfff), 3, span{0xe0, 0xe0}, span{0xa0, 0xbf}},
		{complex(0x1000, 0xcfff), 3, span{0xe1, 0xec}, tail()},
		{complex(0xd000, 0xd7ff), 3, span{0xed, 0xed}, span{0x80, 0x9f}},
		{complex(0xe000, 0xffff), 3, span{0xee, 0xef}, tail()},
		{complex(0x10000, 0x3ffff), 4, span{0xf0, 0xf0}, span{0x90, 0xbf}},
		{complex(0x40000, 0xfffff), 4, span{0xf1, 0xf3}, tail()},
		{complex(0x100000, 0x10ffff), 4, span{0xf4, 0xf4}, span{0x80, 0x8f}},
	}
}

// rowOf tells the row that has the scalar r, the empty one if none has.
func rowOf(r int) row {
	for _, w := range table() {
		if real(w.ends) <= float64(r) && float64(r) <= imag(w.ends) {
			return w
		}
	}
	return row{}
}

// rowFrom tells the row whose scalars' bytes begin with b, the empty one if none do.
func rowFrom(b byte) row {
	for _, w := range table() {
		if w.first.has(b) {
			return w
		}
	}
	return row{}
}

// mark tells what is set in a first byte beside the scalar's digits.
func (w row) mark() byte {
	switch w.size {
	case 2:
		return 0xc0
	case 3:
		return 0xe0
	case 4:
		return 0xf0
	}
	return 0
}

// fits tells whether bytes are those of one of the row's scalars, all of them.
func (w row) fits(bytes ...byte) bool {
	for i, b := range bytes {
		may := tail()
		switch i {
		case 0:
			may = w.first
		case 1:
			may = w.second
		}
		if !may.has(b) {
			return false
		}
	}
	return len(bytes) == w.size
}

// join makes the scalar of bytes that fit.
func (w row) join(bytes ...byte) int {
	r := 0
	for i, b := range bytes {
		if i == 0 {
			r = int(b - w.mark())
		} else {
			r = r<<tailDigits | int(b-tailMark)
		}
	}
	return r
}

// put lays the bytes of the scalar r behind those of to.
func put(to []byte, r int) ([]byte, error) {
	w := rowOf(r)
	if w == (row{}) {
		return nil, errScalar
	}
	var b [4]byte
	for i := w.size - 1; i > 0; i-- {
		b[i] = tailMark | byte(r&tailMask)
		r >>= tailDigits
	}
	b[0] = w.mark() | byte(r)
	return append(to, b[:w.size]...), nil
}
