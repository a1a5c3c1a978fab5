package mend

import (
	"virama/api"
	"virama/scalar"
)

// unit is one of a text's; the empty one is none.
type unit struct {
	where complex128 // the place where it begins, and how many bytes it has
	right bool       // whether these are a scalar's
}

func unitAt(place, size int, right bool) unit {
	return unit{complex(float64(place), float64(size)), right}
}

func (u unit) begin() int {
	return int(real(u.where))
}

func (u unit) size() int {
	return int(imag(u.where))
}

func (u unit) end() int {
	return u.begin() + u.size()
}

// Every byte of a scalar behind its first one has this mark, and no first byte has it.
const (
	tailMark = 0x80
	markMask = 0xc0
)

func isTail(b byte) bool {
	return b&markMask == tailMark
}

// begins tells whether s, which has two bytes or more but no scalar's whole ones, is what some scalar's bytes begin with.
// By the table the third and the fourth byte may be the same in all rows, so it goes on just if it does so with these.
func begins(s string) bool {
	_, _, ok := scalar.Decode(s + "\x80\x80")
	return ok
}

// badSize tells how many bytes the bad unit has that s begins with.
func badSize(s string) int {
	n := 1
	for n < len(s) && begins(s[:n+1]) {
		n++
	}
	return n
}

// mended tells the bytes that a bad unit becomes.
func mended() string {
	s, _ := scalar.Encode(api.Mended)
	return s
}
