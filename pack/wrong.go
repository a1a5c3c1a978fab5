package pack

import (
	"errors"
	"strconv"

	"virama/api"
)

// wrong is the number by which callers know what is wrong.
type wrong api.Errno

func (w wrong) Error() string {
	return "error " + strconv.Itoa(int(w))
}

// fault is what is wrong, and with which part.
type fault struct {
	part string
	why  wrong
}

func (f fault) Error() string {
	return "pack: " + f.part + ": " + f.why.Error()
}

func (f fault) Unwrap() error {
	return f.why
}

// told tells the number of what is wrong. What is not found stays 0: nothing is wrong.
func told(err error) api.Errno {
	var why wrong
	errors.As(err, &why)
	return api.Errno(why)
}
