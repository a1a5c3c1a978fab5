package prop

import (
	"errors"
	"strconv"

	"virama/api"
)

// wrong is the number by which callers know what is wrong.
type wrong api.Errno

// What a reader and a writer find; what is wrong with a file's lines they are told.
const (
	argument = wrong(api.ErrArg)
	unmapped = wrong(api.ErrRange)
	lapping  = wrong(api.ErrLap)
	nameless = wrong(api.ErrName)
)

func (w wrong) Error() string {
	return "prop: error " + strconv.Itoa(int(w))
}

// fault is what is wrong, and in which line, or 0, if it is in none.
type fault struct {
	line int
	why  wrong
}

func (f fault) Error() string {
	return "line " + strconv.Itoa(f.line) + ": " + f.why.Error()
}

func (f fault) Unwrap() error {
	return f.why
}

// told tells the line and the number of what is wrong. What is not found stays 0: nothing is wrong.
func told(err error) (int, api.Errno) {
	var f fault
	errors.As(err, &f)
	return f.line, api.Errno(f.why)
}
