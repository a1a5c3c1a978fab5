package fault_test

import (
	"errors"
	"testing"

	"virama/api"
	"virama/fault"
)

// wrapped is an error within another one.
type wrapped struct {
	error
}

func (w wrapped) Unwrap() error {
	return w.error
}

// The number that was told is found again, however deep it stands.
func TestNumbers(t *testing.T) {
	for _, e := range []api.Errno{api.ErrNil, api.ErrArg, api.ErrPack, api.ErrClass, api.ErrPast} {
		err := fault.In("names", e)
		for range 3 {
			if f := fault.Told(err); f != e {
				t.Error(err, f)
			}
			err = wrapped{err}
		}
	}
	if s := fault.In("names", api.ErrClass).Error(); s != "names: error 70" {
		t.Error(s)
	}
}

// No error has the number 0, and one that wraps no number too.
func TestNoNumber(t *testing.T) {
	for _, err := range []error{nil, errors.New("odd"), wrapped{errors.New("odd")}} {
		if f := fault.Told(err); f != api.OK {
			t.Error(err, f)
		}
	}
}
