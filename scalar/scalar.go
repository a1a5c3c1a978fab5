// Package scalar is layer 1, UTF-8 by its table: see shared/doc/01-scalar.md.
package scalar

import (
	"errors"

	"virama/api"
)

var (
	errScalar = errors.New("scalar: a number that is no scalar")
	errUtf    = errors.New("scalar: bytes that are no scalar's")
)

// Right tells whether r is a scalar.
func Right(r int) bool {
	return rowOf(r) != row{}
}

// Encode tells the bytes of a scalar.
func Encode(r int) (string, api.Errno) {
	b, err := put(nil, r)
	return string(b), number(err)
}

// Decode tells the scalar whose bytes s begins with, and how many these are.
func Decode(s string) (int, int, bool) {
	// One scalar alone has no use for rows that are known already.
	d := reader{rest: rest{s}}
	r, n, err := d.next()
	return r, n, err == nil
}

// Valid tells whether s is well-formed.
func Valid(s string) bool {
	for _, err := range read(s).scalars() {
		if errors.Is(err, errUtf) {
			return false
		}
	}
	return true
}

// Scalars tells the scalars of a text that is well-formed.
func Scalars(s string) ([]int, api.Errno) {
	var l []int
	var wrong error
reading:
	for r, err := range read(s).scalars() {
		switch {
		case errors.Is(err, errUtf):
			l, wrong = nil, err
			break reading
		default:
			l = append(l, r)
		}
	}
	return l, number(wrong)
}

// Text tells the text of scalars.
func Text(l []int) (string, api.Errno) {
	var b []byte
	var err error
	for _, r := range l {
		b, err = put(b, r)
		if errors.Is(err, errScalar) {
			return "", number(err)
		}
	}
	return string(b), api.OK
}

// number tells the number by which callers know what is wrong.
func number(err error) api.Errno {
	switch {
	case errors.Is(err, errScalar):
		return api.ErrScalar
	case errors.Is(err, errUtf):
		return api.ErrUtf
	}
	return api.OK
}
