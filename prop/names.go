package prop

import (
	"virama/api"
	"virama/field"
	"virama/span"
)

// How many names there are at most, as many as a range has values, and how long one is at most.
const (
	mostNames   = api.MaxValue + 1
	mostLetters = 40
)

// names are texts, be they names or not, and the place of the first one of each.
type names struct {
	list   []string
	values map[string]int
}

// namesOf takes texts that are the caller's, and writes nothing into them.
func namesOf(l ...string) names {
	n := names{l, map[string]int{}}
	for i, s := range l {
		if _, again := n.values[s]; !again {
			n.values[s] = i
		}
	}
	return n
}

// isLetter tells whether a name may have that one.
func isLetter(r rune) bool {
	return 'a' <= r && r <= 'z' || 'A' <= r && r <= 'Z' || '0' <= r && r <= '9' || r == '_'
}

func isName(s string) bool {
	for _, r := range s {
		if !isLetter(r) {
			return false
		}
	}
	// What has such letters alone has a byte for each.
	return 1 <= len(s) && len(s) <= mostLetters
}

// right tells whether the texts are names. There are as many values as texts, if no two are the same.
func (n names) right() bool {
	if len(n.list) < 1 || len(n.list) > mostNames || len(n.values) != len(n.list) {
		return false
	}
	for _, s := range n.list {
		if !isName(s) {
			return false
		}
	}
	return true
}

func (n names) value(name string) (int, bool) {
	v, ok := n.values[name]
	return v, ok
}

// have tells whether each range of a map has a name's value.
func (n names) have(l ...api.Range) bool {
	for _, x := range l {
		if x.Value >= len(n.list) {
			return false
		}
	}
	return true
}

// write tells the file that says what a map says.
func (n names) write(l []api.Range) (string, error) {
	var records []api.Record
	switch {
	case !n.right():
		return "", fault{why: argument}
	case !span.Right(l) || !n.have(l...):
		return "", fault{why: unmapped}
	}
	for _, x := range l {
		records = append(records, api.Record{From: x.From, To: x.To, Fields: []string{n.list[x.Value]}})
	}
	return field.Print(records), nil
}
