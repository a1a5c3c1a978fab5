package fold

import (
	"maps"

	"virama/api"
	"virama/fault"
	"virama/field"
	"virama/prop"
	"virama/trie"
)

// maker lays what it reads into its cases; what scalars become it gathers first, as a later file counts ahead.
type maker struct {
	api.Cases
	all said
}

// gather lays what the records of a source say in place of what was said of the same scalars.
func (m *maker) gather(f source) error {
	var err error
	met := map[int]bool{}
	l, line, e := field.Parse(f.text)
	if e != api.OK {
		return fault.InLine(line, fault.In("file", e))
	}
reading:
	for x := range f.kept(l) {
		s, odd := f.reads(x)
		switch {
		case odd != nil:
			err = fault.InLine(x.Line, odd)
			break reading
		case met[x.From]:
			err = fault.InLine(x.Line, fault.In("scalar", api.ErrLap))
			break reading
		}
		// A record that says nothing of its scalar is one that has it, too.
		met[x.From] = true
		maps.Copy(m.all.small, s.small)
		maps.Copy(m.all.titled, s.titled)
	}
	return err
}

// kind tells the trie of the scalars of which a file says a name.
func kind(file, name string) (api.Trie, error) {
	l, line, e := prop.Read(file, []string{"No", name}, 0, true)
	if e != api.OK {
		return api.Trie{}, fault.InLine(line, fault.In(name, e))
	}
	// What a file says is a map, so that nothing can be wrong.
	t, _ := trie.Build(l)
	return t, nil
}

// readKinds lays which scalars are cased, and which are ignorable.
func (m *maker) readKinds(core string) error {
	var err error
	if m.Cased, err = kind(core, "Cased"); err != nil {
		return err
	}
	m.Ignorable, err = kind(core, "Case_Ignorable")
	return err
}

// made tells the cases that three files say, or what is wrong with the first one that is.
func made(data, special, core string) (api.Cases, error) {
	var err error
	m := maker{all: said{becoming{}, becoming{}}}
	for i, read := range []func() error{
		func() error { return m.gather(dataOf(data)) },
		func() error { return m.gather(specialOf(special)) },
		func() error { return m.readKinds(core) },
	} {
		if err = read(); err != nil {
			err = inFile{i + 1, err}
			goto none
		}
	}
	m.Lower, m.Title = m.all.small.mappings(), m.all.titled.mappings()
	return m.Cases, nil
none:
	return api.Cases{}, err
}
