package fault_test

import (
	"errors"
	"testing"

	"virama/api"
	"virama/fault"
)

// The line that was told is found again, however deep it stands, and the number too.
func TestLines(t *testing.T) {
	for _, line := range []int{1, 2, 41, 1 << 40} {
		err := fault.InLine(line, fault.In("side", api.ErrRule))
		if s := err.Error(); line == 41 && s != "line 41: side: error 90" {
			t.Error(s)
		}
		for range 3 {
			if n, e := fault.Line(err), fault.Told(err); n != line || e != api.ErrRule {
				t.Error(err, n, e)
			}
			err = wrapped{err}
		}
	}
}

// What is wrong in no line has the line 0.
func TestNoLine(t *testing.T) {
	for _, err := range []error{nil, errors.New("odd"), wrapped{errors.New("odd")}, fault.In("names", api.ErrArg)} {
		if n := fault.Line(err); n != 0 {
			t.Error(err, n)
		}
	}
}
