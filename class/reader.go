package class

import (
	"iter"
	"strings"

	"virama/api"
	"virama/fault"
)

// reader tells the sets that texts say, by the names that it embeds.
type reader struct {
	names
}

// named goes through the classes that a list names, and tells of each whether there is such a name.
func (r reader) named(list string) iter.Seq2[int, bool] {
	return func(yield func(int, bool) bool) {
		if list == "" {
			return
		}
		for name := range strings.SplitSeq(list, blank) {
			if c, ok := r.known[name]; !yield(c, ok) {
				return
			}
		}
	}
}

// within tells the set of the classes that a list names, each at most once.
func (r reader) within(list string) (classes, error) {
	var err error
	met := classes{0, len(r.list)}
going:
	for c, ok := range r.named(list) {
		with := met.with(c)
		switch {
		case !ok:
			err = fault.In("name", api.ErrClass)
			break going
		case with == met:
			err = fault.In("name again", api.ErrClass)
			break going
		}
		met = with
	}
	return met, err
}

// one tells the set of the one class that has this name.
func (r reader) one(name string) (classes, error) {
	c, ok := r.known[name]
	if !ok {
		return classes{}, fault.In("set", api.ErrClass)
	}
	return classes{0, len(r.list)}.with(c), nil
}

// read tells the set that a text says.
func (r reader) read(s string) (classes, error) {
	list, closed := strings.CutSuffix(s, closing)
	switch {
	case s == all:
		return whole(len(r.list)), nil
	case closed && strings.HasPrefix(list, openOut):
		out, err := r.within(list[len(openOut):])
		return out.not(), err
	case closed && strings.HasPrefix(list, openIn):
		return r.within(list[len(openIn):])
	}
	return r.one(s)
}

// parsed tells the set that a text says.
func parsed(s string, l ...string) (int64, error) {
	var met classes
	n, err := namesOf(l...)
	if err != nil {
		goto none
	}
	met, err = reader{n}.read(s)
	if err != nil {
		goto none
	}
	return met.set, nil
none:
	return 0, err
}
