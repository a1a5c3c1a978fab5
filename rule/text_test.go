package rule_test

import (
	"fmt"
	"slices"
	"strings"
	"testing"

	"virama/api"
	"virama/pattern"
	"virama/prop"
	"virama/rule"
)

// many are n names.
func many(n int) []string {
	var l []string
	for i := range n {
		l = append(l, fmt.Sprint("n", i))
	}
	return l
}

// wrongNames are lists that are no names.
func wrongNames() [][]string {
	l := [][]string{
		nil, {}, {""}, {"A", ""}, {"A", "A"}, {"A", "B", "A"}, {"A B"}, {"+"}, {"A", "/"}, {"#"}, {"A", "\n"},
		{strings.Repeat("A", 41)}, {"A", "\xff"}, many(33), many(64), append(many(32), "n0"),
	}
	for _, names := range l {
		if prop.Names(names) {
			panic(names)
		}
	}
	return l
}

// textOf is what the document's words say that right rules' text is.
func textOf(rules []api.Rule, names []string) string {
	s := ""
	for _, x := range rules {
		left, e := pattern.Print(x.Left, names)
		right, f := pattern.Print(x.Right, names)
		if e != api.OK || f != api.OK {
			panic(x)
		}
		if left != "" {
			s += left + "\x20"
		}
		s += map[bool]string{false: "+", true: "/"}[x.Break]
		if right != "" {
			s += "\x20" + right
		}
		s += "\x0a"
	}
	return s
}

// wantText asks whether rules have their text, and the text is those rules'.
func wantText(t *testing.T, rules []api.Rule, names []string) {
	t.Helper()
	want := textOf(rules, names)
	if s, e := rule.Print(rules, names); s != want || e != api.OK {
		t.Fatalf("Print(%v, %.60q) = %q, %d, wanted %q", rules, names, s, e, want)
	}
	wantParsed(t, want, names, rules, 0, api.OK)
}

// wantUnprinted asks that rules have no text.
func wantUnprinted(t *testing.T, rules []api.Rule, names []string, e api.Errno) {
	t.Helper()
	if s, f := rule.Print(rules, names); s != "" || f != e {
		t.Fatalf("Print(%v, %.60q) = %q, %d, wanted %d", rules, names, s, f, e)
	}
}

// wantParsed asks what a text is parsed as.
func wantParsed(t *testing.T, s string, names []string, want []api.Rule, line int, e api.Errno) {
	t.Helper()
	l, n, f := rule.Parse(s, names)
	if !rule.Same(l, want) || n != line || f != e {
		t.Fatalf("Parse(%.200q, %.60q) = %v, %d, %d, wanted %v, %d, %d", s, names, l, n, f, want, line, e)
	}
}

// strip is a text without blanks at both ends.
func strip(s string) string {
	isBlank := func(i int) bool { return s[i] == 0x20 || s[i] == 9 || s[i] == 0xd }
	for s != "" && isBlank(0) {
		s = s[1:]
	}
	for s != "" && isBlank(len(s)-1) {
		s = s[:len(s)-1]
	}
	return s
}

// ruleOf is what the document's words say that a line is parsed as: a rule, nothing, or ErrRule.
func ruleOf(line string, names []string) ([]api.Rule, api.Errno) {
	if i := strings.IndexByte(line, '#'); i >= 0 {
		line = line[:i]
	}
	if line = strip(line); line == "" {
		return nil, api.OK
	}
	i := strings.IndexAny(line, "+/")
	if i < 0 {
		return nil, api.ErrRule
	}
	left, e := pattern.Parse(strip(line[:i]), names)
	right, f := pattern.Parse(strip(line[i+1:]), names)
	if e != api.OK || f != api.OK || right.Start {
		return nil, api.ErrRule
	}
	return []api.Rule{{Left: left, Right: right, Break: line[i] == '/'}}, api.OK
}

// wantRead asks whether a text is parsed as the document's words say, line by line.
func wantRead(t *testing.T, s string, names []string) {
	t.Helper()
	var all []api.Rule
	for i, line := range strings.Split(s, "\x0a") {
		l, e := ruleOf(line, names)
		all = append(all, l...)
		if e == api.OK && len(all) == 41 {
			e = api.ErrMany
		}
		if e != api.OK {
			wantParsed(t, s, names, nil, i+1, e)
			return
		}
	}
	wantParsed(t, s, names, all, 0, api.OK)
}

// P11.2: texts by hand.
func TestTextsByHand(t *testing.T) {
	a, b := api.Pattern{Items: []api.Item{{Set: 1}}}, api.Pattern{Items: []api.Item{{Set: 2}}}
	names := []string{"A", "B", "C", "D"}
	for _, x := range []struct {
		text string
		want []api.Rule
	}{
		{"", nil},
		{"+\n", []api.Rule{{}}},
		{"/\n", []api.Rule{{Break: true}}},
		{"A +\n", []api.Rule{{Left: a}}},
		{"/ B\n", []api.Rule{{Right: b, Break: true}}},
		{"^ +\n", []api.Rule{{Left: api.Pattern{Start: true}}}},
		{"A + B\nB / A\n", []api.Rule{{Left: a, Right: b}, {Left: b, Right: a, Break: true}}},
		{"^ A** [A C]* / [^B]** .\n", []api.Rule{{
			Left:  api.Pattern{Start: true, Items: []api.Item{{Set: 1, How: 2}, {Set: 5, How: 1}}},
			Right: api.Pattern{Items: []api.Item{{Set: 13, How: 2}, {Set: 15}}},
			Break: true,
		}}},
	} {
		wantText(t, x.want, names)
		if s, e := rule.Print(x.want, names); s != x.text || e != api.OK {
			t.Errorf("%q, %q, %d", s, x.text, e)
		}
	}
	// What counts for nothing, and what is written otherwise than it is printed.
	for s, want := range map[string][]api.Rule{
		"A+B":                         {{Left: a, Right: b}},
		"A\t \r/\r\t B":               {{Left: a, Right: b, Break: true}},
		" \t\rA + B\r\t \n":           {{Left: a, Right: b}},
		"A + B # + B / C ^":           {{Left: a, Right: b}},
		"A +# B":                      {{Left: a}},
		"# A + B":                     nil,
		"\n\n \t\r\n#\n##\n  # x\nA+": {{Left: a}},
		"+\r\n+\r\n":                  {{}, {}},
		"+\n\n/":                      {{}, {Break: true}},
		"[B C]+":                      {{Left: api.Pattern{Items: []api.Item{{Set: 6}}}}},
		"/ # \xff\x80":                {{Break: true}},
		"# \xe2\x82\n/A":              {{Right: a, Break: true}},
	} {
		wantParsed(t, s, names, want, 0, api.OK)
	}
}

// P11.2: lines that are wrong, each alone, and behind others.
func TestWrongLines(t *testing.T) {
	names := []string{"A", "B"}
	for _, line := range []string{
		"A", "A B", ".", "^", "A # + B", "x", "\xff", "é", "A ++ B", "A +/ B", "A + B + A", "A + B / A", "A / B + A", "+ +", "//",
		"C + A", "A + C", "a +", "A + ^", "A + ^ B", "+ ^", "^ / ^", "A  B +", "+ A  B", "A\tB +", "+ A\rB", "A*** +", "+ *",
		"[A +", "+ [A A]", "[A + B]", "A ^ +", "^^ +", "A\x00+", "A\v+ B", "A + B\f", "\u00a0+", "+\u0085", "A \xff+", "+ \xff",
		strings.Repeat("A ", 11) + "+", "/" + strings.Repeat(" A", 11), "^" + strings.Repeat(" A", 11) + " +",
	} {
		wantParsed(t, line, names, nil, 1, api.ErrRule)
		wantParsed(t, "\n#\n"+line+" \t\r\n\n", names, nil, 3, api.ErrRule)
		wantParsed(t, "A + B\n"+line+" # remark\nx\n", names, nil, 2, api.ErrRule)
		wantParsed(t, strings.Repeat("/\n", 39)+line+"\n", names, nil, 40, api.ErrRule)
		wantRead(t, "+\n"+line+"\n+", names)
	}
	most := strings.Repeat("A ", 10) + "+" + strings.Repeat(" B*", 10)
	wantRead(t, "^ "+most, names)
	if l, line, e := rule.Parse("^ "+most, names); len(l) != 1 || line != 0 || e != api.OK {
		t.Error(l, line, e)
	}
}

// P11.2: forty rules, and more, with lines between that count for nothing; what is wrong in a line is told ahead of that it is one too many.
func TestManyLines(t *testing.T) {
	names := []string{"A", "B"}
	for k := range 60 {
		for _, x := range []struct {
			line string
			each int
		}{{"+\n", 1}, {"A/B # x\n", 1}, {"\n+\n", 2}, {"# +\n \t\n/ B\r\n", 3}} {
			s := strings.Repeat(x.line, k)
			wantRead(t, s, names)
			l, line, e := rule.Parse(s, names)
			if k <= 40 && (len(l) != k || line != 0 || e != api.OK) {
				t.Fatal(k, len(l), line, e)
			}
			if k > 40 && (len(l) != 0 || line != 41*x.each || e != api.ErrMany) {
				t.Fatal(k, len(l), line, e)
			}
		}
	}
	full := strings.Repeat("+\n", 40)
	wantParsed(t, full+"x\n", names, nil, 41, api.ErrRule)
	wantParsed(t, full+"A\n+\n", names, nil, 41, api.ErrRule)
	wantParsed(t, full+"+ ^", names, nil, 41, api.ErrRule)
	wantParsed(t, full+"+\nx", names, nil, 41, api.ErrMany)
	wantParsed(t, full+"#\n\n \n", names, make([]api.Rule, 40), 0, api.OK)
	wantParsed(t, full+"#\n\n / ", names, nil, 43, api.ErrMany)
}

// P11.2, P11.3: all rules of few items, and lists of rules.
func TestTexts(t *testing.T) {
	all := rulesOf(2, 2, itemsOf(0, 1, 2, 3)...)
	for i, x := range all {
		if i%7 == 0 || len(x.Left.Items)+len(x.Right.Items) < 3 {
			wantText(t, []api.Rule{x}, []string{"A", "B"})
			wantText(t, []api.Rule{x}, []string{"A", "B", "C"})
		}
	}
	for seed := range 2000 {
		wantText(t, picked(all, mixed(seed, seed%41, len(all))), []string{"b", "B_"})
	}
}

// P11.2: rules of as many names as there may be, and what is not right of as many.
func TestNames(t *testing.T) {
	for n := 1; n <= 32; n++ {
		names := many(n)
		for c := range 33 {
			p := api.Pattern{Items: []api.Item{{Set: 1 << c}}}
			for _, x := range []api.Rule{{Left: p}, {Right: p}, {Left: p, Right: p, Break: true}} {
				for _, l := range [][]api.Rule{{x}, {{}, x}, {x, {}}} {
					if c < n {
						wantText(t, l, names)
					} else {
						wantUnprinted(t, l, names, api.ErrRule)
					}
				}
			}
			e, line := api.OK, 0
			var want []api.Rule
			if c < n {
				want = []api.Rule{{}, {Left: p}}
			} else {
				e, line = api.ErrRule, 2
			}
			wantParsed(t, fmt.Sprint("+\nn", c, " +"), names, want, line, e)
		}
	}
	for _, x := range wrongRules() {
		for _, l := range [][]api.Rule{{x}, {{}, x}, {x, {}}} {
			wantUnprinted(t, l, many(32), api.ErrRule)
			wantUnprinted(t, l, []string{"A"}, api.ErrRule)
		}
	}
	wantText(t, make([]api.Rule, 40), many(1))
	wantUnprinted(t, make([]api.Rule, 41), many(1), api.ErrRule)
}

// P11.2: what are no names is told first.
func TestWrongNames(t *testing.T) {
	for _, names := range wrongNames() {
		for _, x := range append(wrongRules(), api.Rule{}, api.Rule{Break: true}) {
			wantUnprinted(t, []api.Rule{x}, names, api.ErrArg)
		}
		wantUnprinted(t, nil, names, api.ErrArg)
		wantUnprinted(t, make([]api.Rule, 41), names, api.ErrArg)
		for _, s := range []string{"", "\n", "#", "x", "+", "\nA + B", "A + ^", strings.Repeat("+\n", 41)} {
			wantParsed(t, s, names, nil, 0, api.ErrArg)
		}
	}
}

// P11.2: all texts of up to six of the letters that matter.
func TestAllShortTexts(t *testing.T) {
	letters := " \t\r\n#+/^A"
	var all func(s string, more int)
	all = func(s string, more int) {
		wantRead(t, s, []string{"A"})
		for i := 0; more > 0 && i < len(letters); i++ {
			all(s+letters[i:i+1], more-1)
		}
	}
	all("", 6)
}

// P11.2: texts that are right, with a byte changed, put between or left out.
func TestChangedTexts(t *testing.T) {
	bytes := "\x00\x80\xff\xc3\x0b\x0c\x85\xa0"
	for c := range 128 {
		bytes += string(rune(c))
	}
	for _, s := range []string{"A + B", "^ A** / [A B]*\n+\n", "# x\nA+\r\n\n/ [^A] # y", "[] +\t.\n", "é # A\nA / B", "# é\nA / B"} {
		for i := range len(s) + 1 {
			for j := range len(bytes) {
				wantRead(t, s[:i]+bytes[j:j+1]+s[i:], []string{"A", "B"})
				if i < len(s) {
					wantRead(t, s[:i]+bytes[j:j+1]+s[i+1:], []string{"A", "B"})
					wantRead(t, s[:i]+s[i+1:], []string{"A", "B"})
				}
			}
		}
	}
}

// R1: texts that are long.
func TestLongTexts(t *testing.T) {
	n := 1 << 20
	names := []string{"A", "B"}
	for _, x := range []string{" ", "\n", "\t\r\n", "# +\n", "#", "\r"} {
		s := strings.Repeat(x, n)
		wantParsed(t, s, names, nil, 0, api.OK)
		wantParsed(t, s+"\n+", names, []api.Rule{{}}, 0, api.OK)
		wantParsed(t, s+"\nx", names, nil, strings.Count(s, "\n")+2, api.ErrRule)
		wantParsed(t, "+\nA / B\n"+s, names, []api.Rule{{}, {Left: api.Pattern{Items: []api.Item{{Set: 1}}}, Right: api.Pattern{Items: []api.Item{{Set: 2}}}, Break: true}}, 0, api.OK)
	}
	for _, x := range []string{"+", "A", "/ ", "A ", "[", "\xff", "é", "^", "* "} {
		s := strings.Repeat(x, n)
		wantParsed(t, s, names, nil, 1, api.ErrRule)
		wantParsed(t, "+\n"+s+"+"+s, names, nil, 2, api.ErrRule)
	}
	wantParsed(t, "A"+strings.Repeat(" \t\r", n)+"+"+strings.Repeat(" \t\r", n), names, []api.Rule{{Left: api.Pattern{Items: []api.Item{{Set: 1}}}}}, 0, api.OK)
	wantParsed(t, strings.Repeat("+\n", n), names, nil, 41, api.ErrMany)
}

// R3: names stay, spare room too, and rules that were parsed are new memory, each side's.
func TestMemory(t *testing.T) {
	room := []string{"A", "B", "spare", "room"}
	names := room[:2]
	s := "A B + B A\nB / A\n"
	want, _, _ := rule.Parse(s, names)
	l, _, _ := rule.Parse(s, names)
	for i := range l {
		for _, p := range []*api.Pattern{&l[i].Left, &l[i].Right} {
			items := p.Items[:cap(p.Items)]
			for j := range items {
				items[j] = api.Item{Set: 3, How: 1}
			}
			p.Items = items[:0]
			if other := rule.Same(l[i+1:], want[i+1:]); !other || p == &l[i].Left && !pattern.Same(l[i].Right, want[i].Right) {
				t.Fatal(i, l)
			}
		}
	}
	l = l[:cap(l)]
	clear(l)
	wantText(t, want, names)
	wantParsed(t, s, names, want, 0, api.OK)
	rule.Parse("[B A] + x", names)
	rule.Print([]api.Rule{{Break: true}}, names)
	if !slices.Equal(room, []string{"A", "B", "spare", "room"}) {
		t.Error(room)
	}
}

// R4: a call's answer hangs on its arguments alone, whatever was asked ahead of it.
func TestNothingIsKept(t *testing.T) {
	a, b := api.Pattern{Items: []api.Item{{Set: 1}}}, api.Pattern{Items: []api.Item{{Set: 2}}}
	for range 2 {
		wantParsed(t, "A +", []string{"A", "B"}, []api.Rule{{Left: a}}, 0, api.OK)
		wantParsed(t, "A +", []string{"B", "A"}, []api.Rule{{Left: b}}, 0, api.OK)
		wantParsed(t, "A +", []string{"B"}, nil, 1, api.ErrRule)
		wantText(t, []api.Rule{{Left: b}}, []string{"A", "B"})
		wantCuts(t, []api.Rule{{Left: b}}, []int{1, 1}, []int{0, 2})
		wantCuts(t, []api.Rule{{Left: a}}, []int{1, 1}, []int{0, 1, 2})
	}
}
