package pattern

import (
	"strings"

	"virama/api"
	"virama/class"
	"virama/prop"
)

// The part that tells of Start, what stands between two parts, and what stands behind a set.
const (
	start = "^"
	blank = " "
	star  = "*"
)

// mostParts is how many parts a pattern's text has at most: its items', and start.
const mostParts = api.MaxItems + 1

// isHow tells whether an item may stand so often. Its text has as many stars as that number says.
func isHow(how int) bool {
	switch how {
	case api.Once, api.Any, api.Pairs:
		return true
	}
	return false
}

// printed tells a pattern's text.
func printed(p api.Pattern, names ...string) (string, error) {
	var parts []string
	switch {
	case !prop.Names(names):
		return "", errArg
	case !Right(p, len(names)):
		return "", errPattern
	}
	if p.Start {
		parts = append(parts, start)
	}
	for _, x := range p.Items {
		// A right set of as many classes as there are names has a text.
		set, _ := class.Print(x.Set, names)
		parts = append(parts, set+strings.Repeat(star, x.How))
	}
	return strings.Join(parts, blank), nil
}

// partsOf cuts a text at the blanks that are not within brackets. It stops where it has more parts than a pattern: the last one is the rest then.
func partsOf(s string) []string {
	var parts []string
	from, within := 0, false
	if s == "" {
		return nil
	}
cutting:
	for at, r := range s {
		switch {
		case r == '[' || r == ']':
			within = r == '['
		case r == ' ' && !within:
			parts = append(parts, s[from:at])
			from = at + len(blank)
			if len(parts) == mostParts {
				break cutting
			}
		}
	}
	return append(parts, s[from:])
}

// itemOf tells the item that a part says.
func itemOf(part string, names ...string) (api.Item, error) {
	set := strings.TrimRight(part, star)
	how := len(part) - len(set)
	in, e := class.Parse(set, names)
	if e != api.OK || !isHow(how) {
		return api.Item{}, errPattern
	}
	return api.Item{Set: in, How: how}, nil
}

// patternOf tells the pattern that parts say.
func patternOf(names []string, parts ...string) (api.Pattern, error) {
	var p api.Pattern
	var err error
	if len(parts) > 0 && parts[0] == start {
		p.Start = true
		parts = parts[1:]
	}
	if len(parts) > api.MaxItems {
		err = errPattern
		goto none
	}
	for _, part := range parts {
		var x api.Item
		if x, err = itemOf(part, names...); err != nil {
			goto none
		}
		p.Items = append(p.Items, x)
	}
	return p, nil
none:
	return api.Pattern{}, err
}

// parsed tells the pattern that a text says.
func parsed(s string, names ...string) (api.Pattern, error) {
	if !prop.Names(names) {
		return api.Pattern{}, errArg
	}
	return patternOf(names, partsOf(s)...)
}
