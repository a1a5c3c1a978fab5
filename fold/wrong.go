package fold

import (
	"errors"
	"strconv"

	"virama/api"
	"virama/fault"
	"virama/scalar"
)

// inFile is what is wrong, and in which of the files that were handed in.
type inFile struct {
	file int
	err  error
}

func (f inFile) Error() string {
	return "file " + strconv.Itoa(f.file) + ": " + f.err.Error()
}

func (f inFile) Unwrap() error {
	return f.err
}

// fileOf tells the file in which something is wrong. What is not found stays 0: nothing is wrong.
func fileOf(err error) int {
	var at inFile
	errors.As(err, &at)
	return at.file
}

// wrong tells what is wrong with cases, or with a number of which they are asked.
func wrong(c api.Cases, r int) error {
	switch {
	case !Right(c):
		return fault.In("cases", api.ErrCase)
	case !scalar.Right(r):
		return fault.In("number", api.ErrScalar)
	}
	return nil
}
