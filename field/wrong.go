package field

import (
	"errors"
	"strconv"

	"virama/api"
)

// wrong is the number by which callers know what is wrong.
type wrong api.Errno

func (w wrong) Error() string {
	return "field: error " + strconv.Itoa(int(w))
}

// lineError tells in which line of a file something is wrong.
type lineError struct {
	line int
	err  error
}

func (e lineError) Error() string {
	return "line " + strconv.Itoa(e.line) + ": " + e.err.Error()
}

func (e lineError) Unwrap() error {
	return e.err
}

// told tells the line and the number of what is wrong. What is not found stays 0: without an error both, of a whole file's error the line.
func told(err error) (int, api.Errno) {
	var at lineError
	var what wrong
	errors.As(err, &at)
	errors.As(err, &what)
	return at.line, api.Errno(what)
}
