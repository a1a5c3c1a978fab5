package fold

import (
	"iter"

	"virama/api"
	"virama/fault"
	"virama/field"
	"virama/scalar"
)

// The fields of Data's records, and how many these are at least.
const (
	bigField   = 11
	titleField = 13
	dataFields = titleField + 1
)

// The fields of Special's records, and how many these are at least.
const (
	titledField    = 1
	conditionField = 3
	specialFields  = 3
)

// said is what records say that scalars become: made small, and at a word's beginning.
type said struct {
	small, titled becoming
}

// source is a file whose records say what single scalars become.
type source struct {
	text  string
	least int                              // how many fields a record has at least
	over  func(x api.Record) bool          // whether a record is passed over, though it is of a single scalar
	says  func(x api.Record) (said, error) // what a record says that has so many fields
}

func dataOf(text string) source {
	return source{text, dataFields, isNeverOver, saysData}
}

func specialOf(text string) source {
	return source{text, specialFields, hasCondition, saysSpecial}
}

func isNeverOver(x api.Record) bool {
	return false
}

func hasCondition(x api.Record) bool {
	return len(x.Fields) > conditionField && x.Fields[conditionField] != ""
}

// saysData tells what a record of Data says.
func saysData(x api.Record) (said, error) {
	l, err := scalarsOf(codeOrNone, x.Fields[bigField:dataFields]...)
	if err != nil {
		return said{}, err
	}
	big, small, titled := l[0], l[1], l[2]
	if len(titled) == 0 {
		titled = big
	}
	return said{unlessNone(x.From, small), unlessNone(x.From, titled)}, nil
}

// saysSpecial tells what a record of Special says. Where a field is empty, the scalar becomes nothing.
func saysSpecial(x api.Record) (said, error) {
	l, err := scalarsOf(field.Codes, x.Fields[:titledField+1]...)
	if err != nil {
		return said{}, err
	}
	return said{becoming{x.From: l[0]}, becoming{x.From: l[1]}}, nil
}

// codeOrNone reads what may be empty, where a code may stand.
func codeOrNone(s string) ([]int, bool) {
	if s == "" {
		return nil, true
	}
	r, ok := field.Code(s)
	return []int{r}, ok
}

// unlessNone tells that a scalar becomes these, but nothing of it, if there are none.
func unlessNone(r int, to []int) becoming {
	if len(to) == 0 {
		return nil
	}
	return becoming{r: to}
}

// scalarsOf reads fields, each of which says a few scalars.
func scalarsOf(read func(s string) ([]int, bool), fields ...string) ([][]int, error) {
	var all [][]int
	for _, s := range fields {
		l, ok := read(s)
		if !ok || !areFew(l) {
			return nil, fault.In("field", api.ErrHex)
		}
		all = append(all, l)
	}
	return all, nil
}

// kept goes through those of a source's records that are not passed over.
func (f source) kept(l []api.Record) iter.Seq[api.Record] {
	return func(yield func(api.Record) bool) {
		for _, x := range l {
			single := x.From == x.To && scalar.Right(x.From)
			if single && !f.over(x) && !yield(x) {
				return
			}
		}
	}
}

// reads tells what a record says that is not passed over.
func (f source) reads(x api.Record) (said, error) {
	if len(x.Fields) < f.least {
		return said{}, fault.In("record", api.ErrField)
	}
	return f.says(x)
}
