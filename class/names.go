package class

import (
	"strings"

	"virama/api"
	"virama/fault"
	"virama/prop"
)

// What a set's text begins and ends with, what stands between two names, and the text of all classes.
const (
	openIn  = "["
	openOut = "[^"
	closing = "]"
	blank   = " "
	all     = "."
)

// names are those of classes, and which class each is the name of.
type names struct {
	list  []string
	known map[string]int
}

// namesOf takes names that are the caller's, and writes nothing into them.
func namesOf(l ...string) (names, error) {
	if !prop.Names(l) {
		return names{}, fault.In("names", api.ErrArg)
	}
	n := names{l, map[string]int{}}
	for c, name := range l {
		n.known[name] = c
	}
	return n, nil
}

// listed tells the names of the classes in a set.
func (n names) listed(s classes) string {
	var l []string
	for c := range s.each() {
		l = append(l, n.list[c])
	}
	return strings.Join(l, blank)
}

// text tells the text of a set of as many classes as there are names.
func (n names) text(s classes) string {
	switch count := s.count(); {
	case s == whole(s.n):
		return all
	case count == 1:
		return n.listed(s)
	case 2*count > s.n:
		return openOut + n.listed(s.not()) + closing
	}
	return openIn + n.listed(s) + closing
}

// printed tells a set's text.
func printed(set int64, l ...string) (string, error) {
	n, err := namesOf(l...)
	s := classes{set, len(l)}
	switch {
	case err != nil:
		return "", err
	case !s.right():
		return "", fault.In("set", api.ErrClass)
	}
	return n.text(s), nil
}
