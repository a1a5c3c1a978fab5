package field

import (
	"strings"

	"virama/api"
)

// The marks in a line, and what counts for nothing at the ends of it, and of its fields.
const (
	remark  = "#"
	parter  = ";"
	between = ".."
	blanks  = " \t\r"
	lineEnd = "\n"
)

func trim(s string) string {
	return strings.Trim(s, blanks)
}

// counted tells what of a line counts.
func counted(line string) string {
	s, _, _ := strings.Cut(line, remark)
	return trim(s)
}

// record tells the record that a line says, and whether the line counts for something.
func (d digits) record(line string) (api.Record, bool, error) {
	var parts []string
	var ends complex128
	var x api.Record
	var err error
	s := counted(line)
	if s == "" {
		goto none
	}
	// One part more than there may be tells as well as all of them that they are too many.
	parts = strings.SplitN(s, parter, 1+api.MaxFields+1)
	ends, err = d.ends(trim(parts[0]))
	if err != nil {
		goto none
	}
	x, err = recordOf(ends, parts[1:]...)
	if err != nil {
		goto none
	}
	return x, true, nil
none:
	return api.Record{}, false, err
}

// ends tells the first and the last number of the range that a first field says.
func (d digits) ends(s string) (complex128, error) {
	first, last, two := strings.Cut(s, between)
	if !two {
		last = first
	}
	from, okFrom := d.code(first)
	to, okTo := d.code(last)
	switch {
	case !okFrom || !okTo:
		return 0, wrong(api.ErrHex)
	case to < from || to > api.MaxScalar:
		return 0, wrong(api.ErrRange)
	}
	return complex(float64(from), float64(to)), nil
}

// recordOf makes the record of a range and of the fields behind it.
func recordOf(ends complex128, fields ...string) (api.Record, error) {
	if len(fields) == 0 || len(fields) > api.MaxFields {
		return api.Record{}, wrong(api.ErrField)
	}
	x := api.Record{From: int(real(ends)), To: int(imag(ends))}
	for _, f := range fields {
		// A copy, lest a record keep all of its file.
		x.Fields = append(x.Fields, strings.Clone(trim(f)))
	}
	return x, nil
}

// putLine lays the line that says any record behind what b has.
func putLine(b []byte, x api.Record) []byte {
	b = putCode(b, x.From)
	if x.To != x.From {
		b = append(b, between...)
		b = putCode(b, x.To)
	}
	for _, f := range x.Fields {
		b = append(b, parter...)
		b = append(b, f...)
	}
	return append(b, lineEnd...)
}
