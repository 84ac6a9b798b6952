package registry

import (
	"fmt"
	"slices"
	"strings"
	"testing"

	"muntin/api"
)

// bytesOf is a command in bytes.
func bytesOf(t testing.TB, c api.Command) []byte {
	t.Helper()
	b, err := Bytes(c)
	if err != nil {
		t.Fatal(c, err)
	}
	return b
}

// client applies commands, each with the next number of its session.
type client struct {
	t       testing.TB
	r       *Registry
	id, seq int
}

// opened is a client of a session that it has opened.
func opened(t testing.TB, r *Registry) *client {
	t.Helper()
	reply := r.Apply(bytesOf(t, api.Command{Kind: api.CmdOpen}))
	if reply != (api.Reply{Number: r.Now()}) {
		t.Fatal(reply, "at", r.Now())
	}
	return &client{t: t, r: r, id: reply.Number}
}

// begun is a client of a new registry.
func begun(t testing.TB) *client { return opened(t, New()) }

// do applies a command of the client's session, with its next number.
func (c *client) do(x api.Command) api.Reply {
	c.t.Helper()
	c.seq++
	x.Session, x.Seq = c.id, c.seq
	return c.r.Apply(bytesOf(c.t, x))
}

// wants holds a reply to what it should be.
func wants(t testing.TB, got, want api.Reply) {
	t.Helper()
	if got != want {
		t.Errorf("%d %d %.40q, not %d %d %.40q", got.Code, got.Number, got.Text, want.Code, want.Number, want.Text)
	}
}

// register holds CmdRegister to its number, or, below 0, to its error.
func (c *client) register(subject, text string, want int) {
	c.t.Helper()
	wants(c.t, c.do(api.Command{Kind: api.CmdRegister, Subject: subject, Text: text}), numbered(want))
}

// retire holds CmdRetire to its number, or, below 0, to its error.
func (c *client) retire(subject string, number, want int) {
	c.t.Helper()
	wants(c.t, c.do(api.Command{Kind: api.CmdRetire, Subject: subject, Number: number}), numbered(want))
}

// mode holds CmdMode to its number, or, below 0, to its error.
func (c *client) mode(subject string, number, want int) {
	c.t.Helper()
	wants(c.t, c.do(api.Command{Kind: api.CmdMode, Subject: subject, Number: number}), numbered(want))
}

// find holds CmdFind, and Find, to a version.
func (c *client) find(subject string, number, want int, text string) {
	c.t.Helper()
	reply := numbered(want)
	reply.Text = text
	wants(c.t, c.do(api.Command{Kind: api.CmdFind, Subject: subject, Number: number}), reply)
	wants(c.t, c.r.Find(subject, number), reply)
}

// refuses is an error as the tests of replies write it.
func refuses(code api.Errno) int { return -int(code) }

// numbered is the reply of a number, or, below 0, of an error.
func numbered(n int) api.Reply {
	if n < 0 {
		return api.Reply{Code: api.Errno(-n)}
	}
	return api.Reply{Number: n}
}

// shown is all that can be seen of a registry.
func shown(r *Registry) string {
	return fmt.Sprintf("%d %+v %+v", r.Now(), r.List(), r.Sessions())
}

// P17.2, P17.3, P17.4: the examples of the chapter.
func TestExamples(t *testing.T) {
	c := begun(t)
	c.register("g", "a <- 'x' !.", 1)
	c.register("g", "a<-[x-z]!.", 2)
	again := api.Command{Kind: api.CmdRegister, Session: 1, Seq: 2, Subject: "g", Text: "a<-[x-z]!."}
	wants(t, c.r.Apply(bytesOf(t, again)), api.Reply{Number: 2})
	again.Seq = 1
	wants(t, c.r.Apply(bytesOf(t, again)), api.Reply{Code: api.ErrOld})
	c.register("g", "a <- 'y' !.", refuses(api.ErrGate))
	c.register("g", "a <- a", refuses(api.ErrLeft))
	c.find("g", 0, 2, "a <- [x-z] !.\n")
	c.retire("g", 2, 2)
	c.find("g", 0, 1, "a <- 'x' !.\n")
	wants(t, c.r.Apply(bytesOf(t, api.Command{Kind: api.CmdFind, Session: 9, Seq: 1, Subject: "g"})), api.Reply{Code: api.ErrExpired})
	wants(t, c.r.Apply(nil), api.Reply{Code: api.ErrCommand})
	if c.r.Now() != 12 {
		t.Error(c.r.Now())
	}
}

// P17.2: a new one has nothing, and stands at the time 0.
func TestNew(t *testing.T) {
	r := New()
	if r.Now() != 0 || len(r.List()) != 0 || len(r.Sessions()) != 0 {
		t.Error(shown(r))
	}
	wants(t, r.Find("g", 0), api.Reply{Code: api.ErrSubject})
	if s := r.State(); string(s) != "\x00\x00\x00\x00" {
		t.Error(s)
	}
}

// P17.2, P17.5: the time goes on by 1, whatever is applied; an Open's Id is the time.
func TestTime(t *testing.T) {
	r := New()
	for i, x := range []struct {
		b    []byte
		want api.Reply
	}{
		{bytesOf(t, api.Command{}), api.Reply{}},
		{nil, api.Reply{Code: api.ErrCommand}},
		{[]byte("no command"), api.Reply{Code: api.ErrCommand}},
		{bytesOf(t, api.Command{Kind: api.CmdOpen}), api.Reply{Number: 4}},
		{bytesOf(t, api.Command{Kind: api.CmdFind, Session: 3, Seq: 1}), api.Reply{Code: api.ErrExpired}},
		{bytesOf(t, api.Command{Kind: api.CmdFind, Session: 4, Seq: 2}), api.Reply{Code: api.ErrSubject}},
		{bytesOf(t, api.Command{Kind: api.CmdFind, Session: 4, Seq: 2}), api.Reply{Code: api.ErrSubject}},
		{bytesOf(t, api.Command{Kind: api.CmdFind, Session: 4, Seq: 1}), api.Reply{Code: api.ErrOld}},
		{bytesOf(t, api.Command{Kind: api.CmdOpen}), api.Reply{Number: 9}},
		{bytesOf(t, api.Command{Kind: api.CmdFind, Session: 9, Seq: api.MaxInt}), api.Reply{Code: api.ErrSubject}},
	} {
		wants(t, r.Apply(x.b), x.want)
		if r.Now() != i+1 {
			t.Error(i, r.Now())
		}
	}
	l := r.Sessions()
	if len(l) != 2 || l[0].Id != 4 || l[0].Last != 2 || l[0].Used != 2 || l[1].Id != 9 || l[1].Last != api.MaxInt || l[1].Used != 4 {
		t.Error(l)
	}
}

// P17.2: what is no command, a Noop and an Open change nothing but the time, and the sessions of an Open.
func TestNothingElseChanges(t *testing.T) {
	c := begun(t)
	c.register("g", "a <- .", 1)
	for _, b := range [][]byte{nil, {0}, bytesOf(t, api.Command{}), append(bytesOf(t, api.Command{Kind: api.CmdOpen}), 0)} {
		subjects, sessions := fmt.Sprint(c.r.List()), fmt.Sprint(c.r.Sessions())
		c.r.Apply(b)
		if fmt.Sprint(c.r.List()) != subjects || fmt.Sprint(c.r.Sessions()) != sessions {
			t.Error(b, shown(c.r))
		}
	}
	subjects := fmt.Sprint(c.r.List())
	other := opened(t, c.r)
	if fmt.Sprint(c.r.List()) != subjects || len(c.r.Sessions()) != 2 || other.id != 7 {
		t.Error(shown(c.r))
	}
}

// P17.2: one session more than there may be, and the one used least lately is no more: its commands are refused.
func TestSessionsAreDropped(t *testing.T) {
	r := New()
	var all []*client
	for range api.MaxSessions {
		all = append(all, opened(t, r))
	}
	all[0].register("g", "a <- .", 1)
	opened(t, r)
	all[0].find("g", 0, 1, "a <- .\n")
	for _, c := range all[1:2] {
		was := fmt.Sprint(r.List(), r.Sessions())
		c.register("h", "a <- .", refuses(api.ErrExpired))
		if fmt.Sprint(r.List(), r.Sessions()) != was {
			t.Error(shown(r))
		}
	}
	all[2].register("h", "a <- .", 1)
	if l := r.Sessions(); len(l) != api.MaxSessions || l[0].Id != 1 || l[1].Id != 3 {
		t.Error(l)
	}
}

// P17.2, P17.10: a command that comes again is answered as it was, and does nothing, though it would now be answered otherwise.
func TestOnce(t *testing.T) {
	r := New()
	first, second := opened(t, r), opened(t, r)
	first.find("g", 0, refuses(api.ErrSubject), "")
	second.register("g", "a <- 'x' !.", 1)
	again := func(c *client, x api.Command, want api.Reply) {
		t.Helper()
		was := fmt.Sprint(r.List(), r.Sessions())
		x.Session, x.Seq = c.id, c.seq
		wants(t, r.Apply(bytesOf(t, x)), want)
		if fmt.Sprint(r.List(), r.Sessions()) != was {
			t.Error(shown(r))
		}
	}
	again(first, api.Command{Kind: api.CmdFind, Subject: "g"}, api.Reply{Code: api.ErrSubject})
	first.find("g", 0, 1, "a <- 'x' !.\n")
	second.register("g", "a <- [xy] !.", 2)
	again(first, api.Command{Kind: api.CmdFind, Subject: "g"}, api.Reply{Number: 1, Text: "a <- 'x' !.\n"})
	first.retire("g", 2, 2)
	second.mode("g", 0, 0)
	again(second, api.Command{Kind: api.CmdMode, Subject: "g"}, api.Reply{})
	first.mode("g", 1, 1)
	again(second, api.Command{Kind: api.CmdMode, Subject: "g"}, api.Reply{})
	// The number alone tells that it came already: not what else it says.
	again(first, api.Command{Kind: api.CmdRegister, Subject: "h", Text: "a <- ."}, api.Reply{Number: 1})
	if l := r.List(); len(l) != 1 || l[0].Mode != 1 || len(l[0].Versions) != 2 {
		t.Error(l)
	}
}

// P17.2: numbers below the last one are old, whatever they ask for, those above it are new, however far.
func TestNumbers(t *testing.T) {
	c := begun(t)
	c.seq = 6
	c.register("g", "a <- .", 1)
	for seq := 1; seq < 7; seq++ {
		for _, x := range []api.Command{{Kind: api.CmdFind, Subject: "g"}, {Kind: api.CmdRegister, Subject: "h", Text: "a <- ."}, {Kind: api.CmdMode, Subject: "no name"}} {
			x.Session, x.Seq = c.id, seq
			wants(t, c.r.Apply(bytesOf(t, x)), api.Reply{Code: api.ErrOld})
		}
	}
	c.seq = api.MaxInt - 1
	c.retire("g", 1, 1)
	if l := c.r.Sessions(); len(l) != 1 || l[0].Last != api.MaxInt || len(c.r.List()) != 1 {
		t.Error(l)
	}
}

// P17.2: what is noted are the reply's bytes, of refusals too.
func TestNoted(t *testing.T) {
	c := begun(t)
	for i, x := range []struct {
		c    api.Command
		want string
	}{
		{api.Command{Kind: api.CmdRegister, Subject: "g", Text: "a <- ."}, "\x00\x01\x01\x00"},
		{api.Command{Kind: api.CmdFind, Subject: "g"}, "\x00\x01\x01\x01\x07a <- .\n"},
		{api.Command{Kind: api.CmdFind, Subject: "h"}, "\x01\x49\x00\x00"},
		{api.Command{Kind: api.CmdMode, Subject: "g"}, "\x00\x00\x00"},
	} {
		c.do(x.c)
		if s := c.r.Sessions()[0]; string(s.Reply) != x.want || s.Last != i+1 || s.Used != i+2 {
			t.Errorf("%d: %+v", i, s)
		}
	}
}

// P17.4: Find, of all that it may be asked, changes nothing.
func TestFind(t *testing.T) {
	c := begun(t)
	c.register("g", "a <- 'x' !.", 1)
	c.register("g", "a <- [x-z] !.", 2)
	c.register("g", "a <- [a-z] !.", 3)
	c.register("h", "b <- 'b'", 1)
	texts := []string{"", "a <- 'x' !.\n", "a <- [x-z] !.\n", "a <- [a-z] !.\n"}
	for number := 1; number <= 3; number++ {
		c.find("g", number, number, texts[number])
	}
	c.find("h", 0, 1, "b <- 'b'\n")
	c.find("g", 4, refuses(api.ErrVersion), "")
	c.find("g", api.MaxInt, refuses(api.ErrVersion), "")
	for _, subject := range []string{"", "i", "G", "g ", "1", strings.Repeat("g", api.MaxSource)} {
		c.find(subject, 0, refuses(api.ErrSubject), "")
		c.find(subject, 1, refuses(api.ErrSubject), "")
	}
	was := shown(c.r)
	wants(t, c.r.Find(strings.Repeat("g", api.MaxSource+1), 0), api.Reply{Code: api.ErrSubject})
	for _, number := range []int{-1, api.MinInt} {
		wants(t, c.r.Find("g", number), api.Reply{Code: api.ErrVersion})
		wants(t, c.r.Find("i", number), api.Reply{Code: api.ErrSubject})
	}
	if shown(c.r) != was {
		t.Error(shown(c.r), "not", was)
	}
	for _, x := range []struct{ retired, newest int }{{3, 2}, {1, 2}, {2, 0}} {
		c.retire("g", x.retired, x.retired)
		if x.newest == 0 {
			c.find("g", 0, refuses(api.ErrVersion), "")
		} else {
			c.find("g", 0, x.newest, texts[x.newest])
		}
		c.find("g", x.retired, x.retired, texts[x.retired])
	}
	c.register("g", "a <- [a-z] !. / ()", 4)
	c.find("g", 0, 4, "a <- [a-z] !. / ()\n")
}

// P17.5: the subjects by rising names, whatever order they came in; the sessions by rising Ids.
func TestList(t *testing.T) {
	c := begun(t)
	opened(t, c.r)
	for _, name := range []string{"b", "_", "a1", "B"} {
		c.register(name, "a <- '"+name+"' !.", 1)
	}
	c.register("a1", "a <- 'a1' / 'c'", refuses(api.ErrGate))
	c.register("a1", "a <- 'a1' !. / 'c'", 2)
	c.mode("_", 0, 0)
	c.retire("b", 1, 1)
	want := []api.Subject{
		{Name: "B", Mode: 1, Versions: []api.Version{{Text: "a <- 'B' !.\n"}}},
		{Name: "_", Mode: 0, Versions: []api.Version{{Text: "a <- '_' !.\n"}}},
		{Name: "a1", Mode: 1, Versions: []api.Version{{Text: "a <- 'a1' !.\n"}, {Text: "a <- 'a1' !. / 'c'\n"}}},
		{Name: "b", Mode: 1, Versions: []api.Version{{Text: "a <- 'b' !.\n", Retired: true}}},
	}
	if l := c.r.List(); !slices.EqualFunc(l, want, isSame) {
		t.Errorf("%+v, not %+v", l, want)
	}
	if l := c.r.Sessions(); len(l) != 2 || l[0].Id != 1 || l[0].Last != 8 || l[0].Used != 10 || l[1].Id != 2 || l[1].Last != 0 || l[1].Used != 2 || c.r.Now() != 10 {
		t.Errorf("%+v", l)
	}
}

// isSame tells whether two subjects are the same.
func isSame(a, b api.Subject) bool {
	return a.Name == b.Name && a.Mode == b.Mode && slices.Equal(a.Versions, b.Versions)
}
