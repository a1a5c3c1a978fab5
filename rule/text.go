package rule

import (
	"strings"

	"virama/api"
	"virama/fault"
	"virama/pattern"
	"virama/prop"
)

// What parts a rule's sides, what ends its line, and what stands between two parts of it.
const (
	stays   = '+'
	breaks  = '/'
	lineEnd = '\n'
	blank   = " "
)

// sides are the texts of a rule's sides, and the mark between; without one there are none.
type sides struct {
	left, right string
	mark        rune
}

// text is the line of these sides, with its end.
func (s sides) text() string {
	line := string(s.mark)
	if s.left != "" {
		line = s.left + blank + line
	}
	if s.right != "" {
		line += blank + s.right
	}
	return line + string(lineEnd)
}

// sidesOf tells the sides of a right rule of as many classes as there are names.
func sidesOf(x api.Rule, names ...string) sides {
	// Its patterns are right ones of as many, so that they have texts.
	left, _ := pattern.Print(x.Left, names)
	right, _ := pattern.Print(x.Right, names)
	if x.Break {
		return sides{left, right, breaks}
	}
	return sides{left, right, stays}
}

// printed tells rules' text.
func printed(names []string, l ...api.Rule) (string, error) {
	var text strings.Builder
	switch {
	case !prop.Names(names):
		return "", fault.In("names", api.ErrArg)
	case !rules(l).right(len(names)):
		return "", fault.In("rules", api.ErrRule)
	}
	for _, x := range rules(l).each() {
		text.WriteString(sidesOf(x, names...).text())
	}
	return text.String(), nil
}
