package span

import (
	"errors"
	"strconv"

	"virama/api"
)

// fault is the number by which callers know what is wrong, and the place of the range that is.
type fault struct {
	number api.Errno
	at     int
}

func (f fault) Error() string {
	return "span: error " + strconv.Itoa(int(f.number)) + ", range " + strconv.Itoa(f.at)
}

// told tells the place and the number of what is wrong. What is not found stays 0: nothing is wrong.
func told(err error) (int, api.Errno) {
	var f fault
	errors.As(err, &f)
	return f.at, f.number
}
