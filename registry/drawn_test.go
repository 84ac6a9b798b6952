package registry

import (
	"bytes"
	"fmt"
	"strings"
	"testing"

	"muntin/api"
	"muntin/code"
	"muntin/compat"
	"muntin/lex"
	"muntin/packrat"
	"muntin/printer"
	"muntin/syntax"
)

// dice are numbers that look like chance, the same ones in every run.
type dice uint64

// roll is a number below n.
func (d *dice) roll(n int) int {
	*d = *d*6364136223846793005 + 1442695040888963407
	return int(*d>>33) % n
}

// name is a subject's: mostly one of a few, seldom none.
func (d *dice) name() string {
	return []string{"g", "h", "i", "j", "k", "g", "h", "g", "", "1"}[d.roll(10)]
}

// source is a grammar's: mostly one of a few choices, each of which may be let follow some of the others, written in one of a few ways; seldom none.
func (d *dice) source() string {
	if d.roll(12) == 0 {
		return []string{"", "a <- a", "a <- b", "a <- ('x'?)*", "a <- . a <- .", "a <- )", "a <- 'x"}[d.roll(7)]
	}
	parts := []string{"'x'", "[xy]", "b", "'x'*", "'z' 'z'"}
	out := parts[d.roll(3)]
	for i := range d.roll(3) {
		out += " / " + parts[3+i]
	}
	out = "(" + out + ")" + []string{" !.", "", "+ !."}[d.roll(3)*d.roll(2)]
	if strings.Contains(out, "*)+") {
		out = "'x'"
	}
	return strings.Repeat(" ", d.roll(2)) + "a <- " + out + "\n" + strings.Repeat(" ", d.roll(2)) + "b <- 'y' 'x'?"
}

// command is one of a few sessions, mostly as it may be, with numbers about a session's last one.
func (d *dice) command(j judge) api.Command {
	c := api.Command{Kind: d.roll(9)}
	switch {
	case d.roll(12) == 0:
		return api.Command{Kind: api.CmdNoop}
	case c.Kind == api.CmdOpen || len(j.here()) < 2:
		return api.Command{Kind: api.CmdOpen}
	case c.Kind < api.CmdRegister || c.Kind > api.CmdFind:
		c.Kind = api.CmdRegister
	}
	here := j.here()
	c.Session = here[d.roll(len(here))]
	if d.roll(15) == 0 {
		c.Session = 1 + d.roll(len(j)+3)
	}
	_, last := j.last(c.Session)
	c.Seq = max(1, last+[]int{1, 1, 1, 1, 1, 1, 1, 2, 0, -1}[d.roll(10)])
	c.Subject = d.name()
	if c.Kind == api.CmdRegister {
		c.Text = d.source()
	} else {
		c.Number = []int{0, 0, 1, 1, 2, 3, 4, 5, 6, 7}[d.roll(10)]
	}
	return c
}

// judge tells the chapter another way: it keeps all that was applied, with what it was answered, and looks back. The time is how much that is.
type judge []deed

// deed is what was applied: whether it was a command, and one that was done (not refused by its session, nor there already); the Id of the session that it dropped; what was answered.
type deed struct {
	api.Command
	isNone, isDone bool
	dropped        int
	reply          api.Reply
}

// uses are the places of the deeds by which sessions were used, as long as they are there: the least lately used one ahead.
func (j judge) uses() []int {
	var out []int
	for i, d := range j {
		if !d.isDone {
			continue
		}
		id := j.id(i)
		for k := 0; k < len(out); k++ {
			if other := j.id(out[k]); other == id || other == d.dropped {
				out = append(out[:k:k], out[k+1:]...)
				k--
			}
		}
		out = append(out, i)
	}
	return out
}

// id is that of the session that a deed used.
func (j judge) id(i int) int {
	if j[i].Kind == api.CmdOpen {
		return i + 1
	}
	return j[i].Session
}

// here are the Ids of the sessions that are there, the least lately used one ahead.
func (j judge) here() []int {
	var out []int
	for _, i := range j.uses() {
		out = append(out, j.id(i))
	}
	return out
}

// last is the place of the deed by which a session was used last, and its number there; -1, if it is not there.
func (j judge) last(id int) (int, int) {
	for _, i := range j.uses() {
		if j.id(i) == id {
			return i, j[i].Seq
		}
	}
	return -1, 0
}

// apply applies a command, or bytes that are none: what is answered.
func (j *judge) apply(c api.Command, isNone bool) api.Reply {
	d := deed{Command: c, isNone: isNone}
	switch {
	case isNone:
		d.reply = api.Reply{Code: api.ErrCommand}
	case c.Kind == api.CmdOpen:
		if here := j.here(); len(here) == api.MaxSessions {
			d.dropped = here[0]
		}
		d.isDone, d.reply = true, api.Reply{Number: len(*j) + 1}
	case c.Kind != api.CmdNoop:
		d.isDone, d.reply = j.answer(c)
	}
	*j = append(*j, d)
	return d.reply
}

// answer is what a session's command is answered, and whether it is done.
func (j judge) answer(c api.Command) (bool, api.Reply) {
	at, last := j.last(c.Session)
	switch {
	case at < 0:
		return false, api.Reply{Code: api.ErrExpired}
	case c.Seq < last:
		return false, api.Reply{Code: api.ErrOld}
	case c.Seq == last:
		return false, j[at].reply
	}
	s := j.subject(c.Subject)
	n := len(s.Versions)
	switch c.Kind {
	case api.CmdRegister:
		return true, j.registered(s, c.Text)
	case api.CmdFind:
		return true, found(s, c.Number)
	}
	switch {
	case n == 0:
		return true, api.Reply{Code: api.ErrSubject}
	case c.Kind == api.CmdRetire && (c.Number < 1 || c.Number > n):
		return true, api.Reply{Code: api.ErrVersion}
	case c.Kind == api.CmdMode && c.Number > 1:
		return true, api.Reply{Code: api.ErrArg}
	}
	return true, api.Reply{Number: c.Number}
}

// subject is the one of that name, as it came to be; without versions, if it is not there.
func (j judge) subject(name string) api.Subject {
	s := api.Subject{Name: name, Mode: 1}
	for _, d := range j {
		if !d.isDone || d.Subject != name || d.reply.Code != api.OK {
			continue
		}
		switch d.Kind {
		case api.CmdRegister:
			if d.reply.Number > len(s.Versions) {
				text, _, _ := printed(d.Text)
				s.Versions = append(s.Versions, api.Version{Text: text})
			}
		case api.CmdRetire:
			s.Versions[d.reply.Number-1].Retired = true
		case api.CmdMode:
			s.Mode = d.reply.Number
		}
	}
	return s
}

// printed is a source as it is printed, and its program, or an error.
func printed(source string) (string, api.Program, error) {
	g, err := syntax.Parse(source)
	if err != nil {
		return "", api.Program{}, err
	}
	p, err := code.Make(g)
	if err != nil {
		return "", api.Program{}, err
	}
	text, err := printer.Print(g)
	return text, p, err
}

// registered is what a CmdRegister is answered, of a subject as it is.
func (j judge) registered(s api.Subject, source string) api.Reply {
	if !lex.Name(s.Name) {
		return api.Reply{Code: api.ErrSubject}
	}
	text, program, err := printed(source)
	if err != nil {
		return api.Reply{Code: api.Code(err)}
	}
	n := len(s.Versions)
	if n > 0 && s.Versions[n-1].Text == text {
		return api.Reply{Number: n}
	}
	if n == api.MaxVersions || n == 0 && len(j.list()) == api.MaxSubjects {
		return api.Reply{Code: api.ErrLong}
	}
	if n > 0 && s.Mode == 1 {
		_, older, _ := printed(s.Versions[n-1].Text)
		if may, err := compat.Gate(older, program); !may || err != nil {
			return api.Reply{Code: api.ErrGate}
		}
	}
	return api.Reply{Number: n + 1}
}

// found is what Find answers, of a subject as it is.
func found(s api.Subject, number int) api.Reply {
	if len(s.Versions) == 0 {
		return api.Reply{Code: api.ErrSubject}
	}
	out := api.Reply{Code: api.ErrVersion}
	for i, v := range s.Versions {
		if number == i+1 || number == 0 && !v.Retired {
			out = api.Reply{Number: i + 1, Text: v.Text}
		}
	}
	return out
}

// list are the subjects.
func (j judge) list() []api.Subject {
	var out []api.Subject
	for _, name := range []string{"g", "h", "i", "j", "k"} {
		if s := j.subject(name); len(s.Versions) > 0 {
			out = append(out, s)
		}
	}
	return out
}

// state is all of it.
func (j judge) state() plainState {
	s := plainState{time: len(j), subjects: j.list()}
	for i, d := range j {
		if !d.isDone {
			continue
		}
		s.clock++
		if at, _ := j.last(j.id(i)); at != i {
			continue
		}
		session := api.Session{Id: j.id(i), Last: d.Seq, Used: s.clock}
		if d.Kind != api.CmdOpen {
			session.Reply, _ = Answer(d.reply)
		}
		at := 0
		for at < len(s.sessions) && s.sessions[at].Id < session.Id {
			at++
		}
		s.sessions = append(s.sessions[:at:at], append([]api.Session{session}, s.sessions[at:]...)...)
	}
	return s
}

// kindOf tells what came of a command, to count how often it did.
func kindOf(c api.Command, r api.Reply) string { return fmt.Sprint(c.Kind, " ", int(r.Code)) }

// P17.2 to P17.6, P17.8: drawn commands, against the chapter told another way; registries to which the same was applied, and those that were loaded on the way, are the same.
func TestDrawnCommands(t *testing.T) {
	seen := map[string]int{}
	for seed := range 25 {
		d := dice(seed)
		all, j := []*Registry{New(), New()}, judge{}
		for step := range 160 {
			c := d.command(j)
			b := bytesOf(t, c)
			isNone := d.roll(30) == 0
			if isNone {
				b = b[:d.roll(len(b))]
			}
			want := j.apply(c, isNone)
			state := j.state()
			plain := state.bytes()
			for i, r := range all {
				wants(t, r.Apply(b), want)
				if got := r.State(); !bytes.Equal(got, plain) {
					t.Fatalf("%d %d %d: %+v: %q, not %q", seed, step, i, c, got, plain)
				}
			}
			if got := shown(all[0]); got != fmt.Sprintf("%d %+v %+v", state.time, state.subjects, state.sessions) {
				t.Fatal(got)
			}
			name, number := d.name(), d.roll(9)-1
			wants(t, all[0].Find(name, number), found(j.subject(name), number))
			seen[kindOf(c, want)]++
			if step%40 == 20 {
				all = append(all, loads(t, state))
			}
		}
	}
	for _, x := range []string{"0 0", "0 70", "1 0", "2 0", "2 71", "2 72", "2 73", "2 2", "2 3", "2 4", "2 30", "2 31", "2 40", "2 41", "2 75", "3 0", "3 73", "3 74", "4 0", "4 1", "4 73", "5 0", "5 73", "5 74"} {
		if seen[x] == 0 {
			t.Error("never seen:", x, seen)
		}
	}
}

// short are all texts of a few bytes, up to a length.
func short(length int) []string {
	out, last := []string{""}, []string{""}
	for range length {
		var next []string
		for _, s := range last {
			for _, b := range "xyzw" {
				next = append(next, s+string(b))
			}
		}
		out, last = append(out, next...), next
	}
	return out
}

// accepts tells whether a source's grammar accepts a text.
func accepts(t *testing.T, source, text string) bool {
	t.Helper()
	_, p, err := printed(source)
	if err != nil {
		t.Fatal(source, err)
	}
	is, _, err := packrat.Accepts(p, text, api.MaxSteps)
	if err != nil {
		t.Fatal(source, err)
	}
	return is
}

// P17.9: a version that came under the Mode 1 accepts each text that the one ahead accepts; a version once there stays, with its text.
func TestWhatFollowsAccepts(t *testing.T) {
	held, texts := 0, short(4)
	for seed := range 60 {
		d := dice(500 + seed)
		c := begun(t)
		var was api.Subject
		for range 30 {
			c.do(api.Command{Kind: api.CmdRetire, Subject: "g", Number: d.roll(7)})
			c.do(api.Command{Kind: api.CmdMode, Subject: "g", Number: 1 - d.roll(12)/11})
			c.do(api.Command{Kind: api.CmdRegister, Subject: "g", Text: d.source()})
			l := c.r.List()
			if len(l) == 0 {
				continue
			}
			s := l[0]
			for i, v := range was.Versions {
				if i >= len(s.Versions) || s.Versions[i].Text != v.Text {
					t.Fatal(s, "not", was)
				}
			}
			if n := len(s.Versions); n > 1 && n > len(was.Versions) && s.Mode == 1 {
				held++
				for _, text := range texts {
					if accepts(t, s.Versions[n-2].Text, text) && !accepts(t, s.Versions[n-1].Text, text) {
						t.Errorf("%q follows %q, and does not accept %q", s.Versions[n-1].Text, s.Versions[n-2].Text, text)
					}
				}
			}
			was = s
		}
	}
	if held < 60 {
		t.Error(held)
	}
}

// P17.10: a command that comes again, though others' came between, does nothing, and is answered as it was, as long as its session has done no other one since, and is there.
func TestDrawnOnce(t *testing.T) {
	again := 0
	for seed := range 10 {
		d := dice(900 + seed)
		r, j := New(), judge{}
		type done struct {
			c     api.Command
			reply api.Reply
		}
		last := map[int]done{}
		for range 200 {
			c := d.command(j)
			reply := r.Apply(bytesOf(t, c))
			if c.Session > 0 && j.apply(c, false) == reply && j[len(j)-1].isDone {
				last[c.Session] = done{c, reply}
			} else if c.Session == 0 {
				j.apply(c, false)
			}
			for id, x := range last {
				if at, _ := j.last(id); at < 0 {
					delete(last, id)
					wants(t, r.Apply(bytesOf(t, x.c)), api.Reply{Code: api.ErrExpired})
					j.apply(x.c, false)
				}
			}
			id := 1 + d.roll(len(j))
			if x, isDone := last[id]; isDone {
				was := fmt.Sprint(r.List(), r.Sessions())
				wants(t, r.Apply(bytesOf(t, x.c)), x.reply)
				j.apply(x.c, false)
				again++
				if fmt.Sprint(r.List(), r.Sessions()) != was {
					t.Error(shown(r))
				}
			}
		}
	}
	if again < 50 {
		t.Error(again)
	}
}

// FuzzApply has each two bytes be a command: P17.2 to P17.6, P17.8.
func FuzzApply(f *testing.F) {
	f.Add([]byte("a registry, its commands and what is answered to them"))
	f.Add([]byte{1, 0, 2, 0, 2, 1, 2, 2, 3, 1, 5, 0, 4, 0, 0, 9})
	f.Fuzz(func(t *testing.T, b []byte) {
		r, j := New(), judge{}
		for i := 0; i+1 < len(b) && i < 120; i += 2 {
			d := dice(int(b[i])<<8 | int(b[i+1]))
			c := d.command(j)
			wants(t, r.Apply(bytesOf(t, c)), j.apply(c, false))
			if state := j.state().bytes(); !bytes.Equal(r.State(), state) {
				t.Fatalf("%q, not %q", r.State(), state)
			}
			if b[i]%16 == 3 {
				r, _ = Load(r.State())
			}
		}
	})
}
