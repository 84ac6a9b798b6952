package registry

import (
	"muntin/api"
	"muntin/fields"
	"muntin/lex"
	"muntin/session"
)

// State is all of it.
func (r *Registry) State() []byte {
	var w fields.Writer
	w.Num(r.time)
	w.Num(r.sessions.Clock())
	sessions := r.Sessions()
	w.Num(len(sessions))
	for _, s := range sessions {
		putSession(&w, s)
	}
	subjects := r.List()
	w.Num(len(subjects))
	for _, s := range subjects {
		putSubject(&w, s)
	}
	// An error is told of a time, or a clock, that went round beyond MaxInt: no bytes tell that.
	out, _ := w.Bytes()
	return out
}

// putSession puts a session.
func putSession(w *fields.Writer, s api.Session) {
	w.Num(s.Id)
	w.Num(s.Last)
	w.Num(s.Used)
	w.Blob(s.Reply)
}

// putSubject puts a subject.
func putSubject(w *fields.Writer, s api.Subject) {
	w.Blob([]byte(s.Name))
	w.Num(s.Mode)
	w.Num(len(s.Versions))
	for _, v := range s.Versions {
		w.Blob([]byte(v.Text))
		w.Flag(v.Retired)
	}
}

// Load is the way back.
func Load(b []byte) (*Registry, error) {
	in := reader{fields.Read(b)}
	time, clock := in.Num(), in.Num()
	sessions := fields.Row(in.Reader, api.MaxSessions, in.session)
	subjects := fields.Row(in.Reader, api.MaxSubjects, in.subject)
	if in.End() != nil || !areOf(sessions, time) || !areSubjects(subjects) {
		return nil, api.ErrState
	}
	table, err := session.Restore(sessions, clock)
	if err != nil {
		return nil, api.ErrState
	}
	r := &Registry{time: time, sessions: table, subjects: map[string]api.Subject{}}
	for _, s := range subjects {
		r.subjects[s.Name] = s
	}
	return r, nil
}

// reader takes from the front of bytes what a registry is made of.
type reader struct{ *fields.Reader }

// session takes a session.
func (r reader) session() api.Session {
	return api.Session{Id: r.Num(), Last: r.Num(), Used: r.Num(), Reply: r.Blob()}
}

// subject takes a subject.
func (r reader) subject() api.Subject {
	return api.Subject{Name: string(r.Blob()), Mode: r.Num(), Versions: fields.Row(r.Reader, api.MaxVersions, r.version)}
}

// version takes a version.
func (r reader) version() api.Version {
	return api.Version{Text: string(r.Blob()), Retired: r.Flag()}
}

// areOf tells whether sessions may be a registry's of that time. What a session table asks of them is not asked.
func areOf(l []api.Session, time int) bool {
	for _, s := range l {
		if s.Id > time || s.Last > 0 && !isReply(s.Reply) {
			return false
		}
	}
	return true
}

// isReply tells whether these are the bytes of a reply.
func isReply(b []byte) bool {
	_, err := Reply(b)
	return err == nil
}

// areSubjects tells whether subjects may be a registry's, one behind another.
func areSubjects(l []api.Subject) bool {
	for i, s := range l {
		if i > 0 && s.Name <= l[i-1].Name || !isSubject(s) {
			return false
		}
	}
	return true
}

// isSubject tells whether a subject may be one.
func isSubject(s api.Subject) bool {
	if !lex.Name(s.Name) || !isMode(s.Mode) || len(s.Versions) == 0 {
		return false
	}
	for i, v := range s.Versions {
		if i > 0 && v.Text == s.Versions[i-1].Text || !isPrinted(v.Text) {
			return false
		}
	}
	return true
}

// isPrinted tells whether a text is what a grammar is printed as.
func isPrinted(text string) bool {
	g, err := read(text)
	return err == nil && g.text == text
}
