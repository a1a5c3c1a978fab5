package rule

import (
	"iter"
	"strings"

	"virama/api"
	"virama/fault"
	"virama/pattern"
	"virama/prop"
)

// What of a line counts for nothing: what stands behind a remark's mark, and blanks.
const (
	remark = "#"
	blanks = " \t\r"
)

func trim(s string) string {
	return strings.Trim(s, blanks)
}

// counted tells what of a line counts.
func counted(line string) string {
	s, _, _ := strings.Cut(line, remark)
	return trim(s)
}

// marks tells of each mark whether a rule that has it says Break.
type marks map[rune]bool

// bothMarks are made anew each time, as no map stands at package level.
func bothMarks() marks {
	return marks{stays: false, breaks: true}
}

// part parts a line at its first mark.
func (m marks) part(line string) sides {
	for at, r := range line {
		if _, ok := m[r]; ok {
			return sides{trim(line[:at]), trim(line[at+1:]), r}
		}
	}
	return sides{}
}

// rule tells the rule that sides say.
func (m marks) rule(s sides, names ...string) (api.Rule, error) {
	if s == (sides{}) {
		return api.Rule{}, fault.In("line without mark", api.ErrRule)
	}
	left, wrongLeft := pattern.Parse(s.left, names)
	right, wrongRight := pattern.Parse(s.right, names)
	if wrongLeft != api.OK || wrongRight != api.OK || right.Start {
		return api.Rule{}, fault.In("side", api.ErrRule)
	}
	return api.Rule{Left: left, Right: right, Break: m[s.mark]}, nil
}

// source is rules' text, and what reads a line of it that counts.
type source struct {
	text string
	read func(line string) (api.Rule, error)
}

// sourceOf is a text that is read by names.
func sourceOf(text string, names ...string) source {
	m := bothMarks()
	return source{text, func(line string) (api.Rule, error) {
		return m.rule(m.part(line), names...)
	}}
}

// lines goes through the lines, each with its number.
func (s source) lines() iter.Seq2[int, string] {
	return func(yield func(int, string) bool) {
		n, from := 1, 0
		for at, r := range s.text {
			if r != lineEnd {
				continue
			}
			if !yield(n, s.text[from:at]) {
				return
			}
			n, from = n+1, at+1
		}
		yield(n, s.text[from:])
	}
}

// rules tells the rules, or what is wrong with the first line in which something is.
func (s source) rules() ([]api.Rule, error) {
	var l []api.Rule
	var err error
reading:
	for n, line := range s.lines() {
		var x api.Rule
		if line = counted(line); line == "" {
			continue reading
		}
		x, err = s.read(line)
		switch {
		case err != nil:
			err = fault.InLine(n, err)
			goto none
		case len(l) == api.MaxRules:
			err = fault.InLine(n, fault.In("rule", api.ErrMany))
			goto none
		}
		l = append(l, x)
	}
	return l, nil
none:
	return nil, err
}

// parsed tells the rules that a text says.
func parsed(s string, names ...string) ([]api.Rule, error) {
	if !prop.Names(names) {
		return nil, fault.In("names", api.ErrArg)
	}
	return sourceOf(s, names...).rules()
}
