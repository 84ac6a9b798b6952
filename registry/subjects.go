package registry

import (
	"errors"

	"muntin/api"
	"muntin/code"
	"muntin/compat"
	"muntin/lex"
	"muntin/printer"
	"muntin/syntax"
)

// grammar is what becomes of a source.
type grammar struct {
	program api.Program
	text    string // as it is printed
}

// read reads a source.
func read(source string) (grammar, error) {
	g, err := syntax.Parse(source)
	if err != nil {
		return grammar{}, err
	}
	program, err := code.Make(g)
	if err != nil {
		return grammar{}, err
	}
	text, err := printer.Print(g)
	if err != nil {
		return grammar{}, err
	}
	return grammar{program: program, text: text}, nil
}

// register makes a grammar the newest version of a subject, if it is not that already: its number.
func (r *Registry) register(name, source string) (int, error) {
	if !lex.Name(name) {
		return 0, api.ErrSubject
	}
	g, err := read(source)
	if err != nil {
		return 0, err
	}
	s, err := r.subject(name)
	if errors.Is(err, api.ErrSubject) {
		return r.begin(name, g)
	}
	return r.follow(s, g)
}

// begin makes a grammar the first version of a new subject.
func (r *Registry) begin(name string, g grammar) (int, error) {
	if len(r.subjects) >= api.MaxSubjects {
		return 0, api.ErrLong
	}
	return r.add(api.Subject{Name: name, Mode: 1}, g), nil
}

// follow makes a grammar the newest version of a subject that has some.
func (r *Registry) follow(s api.Subject, g grammar) (int, error) {
	number := len(s.Versions)
	newest := s.Versions[number-1].Text
	if g.text == newest {
		return number, nil
	}
	if number >= api.MaxVersions {
		return 0, api.ErrLong
	}
	if s.Mode == 1 && !mayFollow(newest, g) {
		return 0, api.ErrGate
	}
	return r.add(s, g), nil
}

// mayFollow tells whether a grammar may follow that of a version's text. Of what stands in a version no error is told, nor of programs.
func mayFollow(text string, g grammar) bool {
	older, _ := read(text)
	may, _ := compat.Gate(older.program, g.program)
	return may
}

// add puts a grammar behind a subject's versions: its number.
func (r *Registry) add(s api.Subject, g grammar) int {
	s.Versions = append(s.Versions, api.Version{Text: g.text})
	r.subjects[s.Name] = s
	return len(s.Versions)
}

// retire retires a version.
func (r *Registry) retire(name string, number int) (int, error) {
	s, err := r.subject(name)
	if err != nil {
		return 0, err
	}
	if !has(s, number) {
		return 0, api.ErrVersion
	}
	// What is kept has these versions too: it is changed with them.
	s.Versions[number-1].Retired = true
	return number, nil
}

// setMode sets a subject's mode.
func (r *Registry) setMode(name string, mode int) (int, error) {
	s, err := r.subject(name)
	if err != nil {
		return 0, err
	}
	if !isMode(mode) {
		return 0, api.ErrArg
	}
	s.Mode = mode
	r.subjects[name] = s
	return mode, nil
}

// isMode tells whether a subject may have that mode.
func isMode(mode int) bool { return mode == 0 || mode == 1 }

// subject is the one of that name.
func (r *Registry) subject(name string) (api.Subject, error) {
	s, isThere := r.subjects[name]
	if !isThere {
		return api.Subject{}, api.ErrSubject
	}
	return s, nil
}

// has tells whether a subject has a version of that number.
func has(s api.Subject, number int) bool { return number >= 1 && number <= len(s.Versions) }

// newestInUse is the number of the newest version that is not retired; 0, if all are.
func newestInUse(s api.Subject) int {
	number := len(s.Versions)
	for number > 0 && s.Versions[number-1].Retired {
		number--
	}
	return number
}
