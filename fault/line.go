package fault

import (
	"errors"
	"strconv"
)

// inLine is what is wrong, and in which line of what was handed in.
type inLine struct {
	line int
	err  error
}

func (f inLine) Error() string {
	return "line " + strconv.Itoa(f.line) + ": " + f.err.Error()
}

func (f inLine) Unwrap() error {
	return f.err
}

// InLine tells in which line something is wrong.
func InLine(line int, err error) error {
	return inLine{line, err}
}

// Line tells the line in which something is wrong. What is not found stays 0: it is wrong in no line.
func Line(err error) int {
	var at inLine
	errors.As(err, &at)
	return at.line
}
