package field

import (
	"iter"
	"strings"

	"virama/api"
)

// file is one whose lines are not read yet.
type file struct {
	text string
}

// reader goes through the lines of its file.
type reader struct {
	file
	digits
}

func read(s string) reader {
	return reader{file{s}, hex()}
}

// lines goes through the lines, each with its number.
func (r reader) lines() iter.Seq2[int, string] {
	return func(yield func(int, string) bool) {
		n := 0
		for line := range strings.SplitSeq(r.text, lineEnd) {
			n++
			if !yield(n, line) {
				return
			}
		}
	}
}

// records tells the records, or what is wrong with the first line in which something is.
func (r reader) records() ([]api.Record, error) {
	var l []api.Record
	var fault error
	if len(r.text) > api.MaxFile {
		return nil, wrong(api.ErrFile)
	}
reading:
	for n, line := range r.lines() {
		x, counts, err := r.record(line)
		switch {
		case err != nil:
			l, fault = nil, lineError{n, err}
			break reading
		case !counts:
			continue reading
		case len(l) == api.MaxRecords:
			l, fault = nil, lineError{n, wrong(api.ErrMany)}
			break reading
		}
		x.Line = n
		l = append(l, x)
	}
	return l, fault
}
