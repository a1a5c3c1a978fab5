package prop

import (
	"errors"
	"iter"

	"virama/api"
	"virama/field"
	"virama/span"
)

// nothing is a range without a number: what a record says that says nothing.
var nothing = api.Range{From: 0, To: -1}

// reader knows its names in one field of the records, and passes over others, if it is loose.
type reader struct {
	names
	field int
	loose bool
}

// readerOf takes what the caller gives, unless no reader can be made of it.
func readerOf(k int, loose bool, names ...string) (reader, error) {
	n := namesOf(names...)
	if !n.right() || k < 0 || k >= api.MaxFields {
		return reader{}, fault{why: argument}
	}
	return reader{n, k, loose}, nil
}

// each goes through records.
func each(l ...api.Record) iter.Seq[api.Record] {
	return func(yield func(api.Record) bool) {
		for _, x := range l {
			if !yield(x) {
				return
			}
		}
	}
}

// named tells the value of the name that a record has.
func (r reader) named(x api.Record) (int, error) {
	if r.field < len(x.Fields) {
		if v, ok := r.value(x.Fields[r.field]); ok {
			return v, nil
		}
	}
	return 0, fault{x.Line, nameless}
}

// says tells what a record says.
func (r reader) says(x api.Record) (api.Range, error) {
	v, err := r.named(x)
	if r.loose && errors.Is(err, nameless) {
		return nothing, nil
	}
	return api.Range{From: x.From, To: x.To, Value: v}, err
}

// records tells a file's records.
func records(file string) ([]api.Record, error) {
	l, line, e := field.Parse(file)
	if e != api.OK {
		return nil, fault{line, wrong(e)}
	}
	return l, nil
}

// read tells the tight map of what a file says, or what is wrong first. What is said is a map after each record, so that the first one that laps is told.
func (r reader) read(file string) ([]api.Range, error) {
	var said []api.Range
	l, err := records(file)
	if err != nil {
		goto none
	}
reading:
	for x := range each(l...) {
		var y api.Range
		var e api.Errno
		if y, err = r.says(x); err != nil {
			goto none
		}
		if y == nothing {
			continue reading
		}
		if said, _, e = span.Sort(append(said, y)); e != api.OK {
			err = fault{x.Line, lapping}
			goto none
		}
	}
	said, _ = span.Tight(said)
	return said, nil
none:
	return nil, err
}

// readFile tells the tight map of what a file says by names, which stand in its records' field k.
func readFile(file string, k int, loose bool, names ...string) ([]api.Range, error) {
	r, err := readerOf(k, loose, names...)
	if err != nil {
		return nil, err
	}
	return r.read(file)
}
