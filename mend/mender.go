package mend

import (
	"iter"

	"virama/scalar"
)

// text is one that may be ill-formed anywhere.
type text struct {
	bytes string
}

// has tells whether there is a byte at that place.
func (t text) has(at int) bool {
	return 0 <= at && at < len(t.bytes)
}

// unit tells the unit that begins at that place, none at the text's end.
func (t text) unit(at int) unit {
	if !t.has(at) {
		return unit{}
	}
	rest := t.bytes[at:]
	if _, n, ok := scalar.Decode(rest); ok {
		return unitAt(at, n, true)
	}
	return unitAt(at, badSize(rest), false)
}

// sure tells the first of the places at which a unit begins whatever stands ahead.
// If there is none, it is the first place of all: what begins a unit farther ahead than these does not reach it.
func (t text) sure(places ...int) int {
	for _, at := range places {
		if t.has(at) && !isTail(t.bytes[at]) {
			return at
		}
	}
	return places[0]
}

// mender goes through the units of its text.
type mender struct {
	text
	from int // where the first unit begins that it goes through
}

// whole goes through all of s.
func whole(s string) mender {
	return mender{text: text{s}}
}

// near goes through s from so far ahead of a byte on that the unit which has it is met. A unit has four bytes at most.
func near(s string, at int) mender {
	t := text{s}
	return mender{t, t.sure(at, at-1, at-2, at-3)}
}

func (m mender) units() iter.Seq[unit] {
	return func(yield func(unit) bool) {
		for at := m.from; m.has(at); {
			u := m.unit(at)
			if !yield(u) {
				return
			}
			at = u.end()
		}
	}
}

// upTo tells the units up to the one that has the byte at that place, by the places that key tells of them.
func (m mender) upTo(at int, key func(unit) int) map[int]unit {
	places := map[int]unit{}
looking:
	for u := range m.units() {
		places[key(u)] = u
		if u.end() > at {
			break looking
		}
	}
	return places
}

// find tells the unit which has the byte at that place, if it is the one that key tells place of.
func find(s string, at, place int, key func(unit) int) (unit, error) {
	var m mender
	var u unit
	if !(text{s}).has(at) {
		goto none
	}
	m = near(s, at)
	u = m.upTo(at, key)[place]
	if u == (unit{}) {
		goto none
	}
	return u, nil
none:
	return unit{}, errPlace
}
