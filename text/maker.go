package text

import (
	"virama/api"
	"virama/dfa"
	"virama/fault"
	"virama/prop"
	"virama/rule"
	"virama/trie"
)

// step does a part of some work, or tells what is wrong with it.
type step func() error

// inTurn takes steps, up to the first one that tells that something is wrong.
func inTurn(steps ...step) error {
	for _, take := range steps {
		if err := take(); err != nil {
			return err
		}
	}
	return nil
}

// maker lays what it reads into its tables.
type maker struct {
	api.Tables
	names []string
}

func makerOf(names ...string) *maker {
	return &maker{api.Tables{Classes: len(names)}, names}
}

// readProps lays what a file says of scalars.
func (m *maker) readProps(file string) step {
	return func() error {
		l, line, e := prop.Read(file, m.names, 0, false)
		if e != api.OK {
			return fault.InLine(line, fault.In("properties", e))
		}
		// What a file says is a map, so that nothing can be wrong.
		m.Props, _ = trie.Build(l)
		return nil
	}
}

// readRules lays what rules' text says.
func (m *maker) readRules(text string) step {
	return func() error {
		l, line, e := rule.Parse(text, m.names)
		if e != api.OK {
			return fault.InLine(line, fault.In("rules", e))
		}
		m.Rules = l
		return nil
	}
}

// compile lays the machine of the rules that were read.
func (m *maker) compile() step {
	return func() error {
		x, e := dfa.Compile(m.Rules, m.Classes)
		if e != api.OK {
			return fault.In("machine", e)
		}
		m.Machine = x
		return nil
	}
}

// made tells the tables of what is said of scalars, and of rules' text.
func made(props, rules string, names ...string) (api.Tables, error) {
	m := makerOf(names...)
	err := inTurn(m.readProps(props), m.readRules(rules), m.compile())
	if err != nil {
		goto none
	}
	return m.Tables, nil
none:
	return api.Tables{}, err
}
