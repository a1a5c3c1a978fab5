// Package fault holds the errors that layers tell within themselves. They wrap the numbers that callers know.
package fault

import (
	"errors"
	"strconv"

	"virama/api"
)

// number is the number by which callers know what is wrong.
type number api.Errno

func (n number) Error() string {
	return "error " + strconv.Itoa(int(n))
}

// inPart is what is wrong with a part of what was handed in.
type inPart struct {
	part string
	why  number
}

func (f inPart) Error() string {
	return f.part + ": " + f.why.Error()
}

func (f inPart) Unwrap() error {
	return f.why
}

// In tells what is wrong with a part of what was handed in.
func In(part string, why api.Errno) error {
	return inPart{part, number(why)}
}

// Told tells the number of what is wrong. What is not found stays 0: nothing is wrong.
func Told(err error) api.Errno {
	var why number
	errors.As(err, &why)
	return api.Errno(why)
}
