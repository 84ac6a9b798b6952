package registry

import (
	"bytes"
	"fmt"
	"slices"
	"strings"
	"testing"

	"muntin/api"
)

// plainState is what a registry's bytes say, whether or not it may be.
type plainState struct {
	time, clock int
	sessions    []api.Session
	subjects    []api.Subject
}

// bytes are those of a state, written another way than the registry's.
func (s plainState) bytes() []byte {
	out := joined(plainNum(s.time), plainNum(s.clock), plainNum(len(s.sessions)))
	for _, x := range s.sessions {
		out = joined(out, plainNum(x.Id), plainNum(x.Last), plainNum(x.Used), plainBlob(string(x.Reply)))
	}
	out = append(out, plainNum(len(s.subjects))...)
	for _, x := range s.subjects {
		out = joined(out, plainBlob(x.Name), plainNum(x.Mode), plainNum(len(x.Versions)))
		for _, v := range x.Versions {
			retired := 0
			if v.Retired {
				retired = 1
			}
			out = joined(out, plainBlob(v.Text), plainNum(retired))
		}
	}
	return out
}

// usual is a state that may be, with three sessions and two subjects.
func usual() plainState {
	return plainState{
		time: 300, clock: 40,
		sessions: []api.Session{
			{Id: 2, Last: 5, Used: 39, Reply: []byte("\x00\x01\x01\x00")},
			{Id: 7, Used: 40},
			{Id: 300, Last: 1, Used: 3, Reply: []byte("\x01\x49\x00\x00")},
		},
		subjects: []api.Subject{
			{Name: "g", Mode: 1, Versions: []api.Version{{Text: "a <- 'x'\n"}, {Text: "a <- [x-z]\n", Retired: true}, {Text: "a <- 'x'\n"}}},
			{Name: "h", Versions: []api.Version{{Text: "a <- .\n"}}},
		},
	}
}

// loads holds Load to a state, and State to its bytes.
func loads(t *testing.T, s plainState) *Registry {
	t.Helper()
	b := s.bytes()
	r, err := Load(b)
	if err != nil {
		t.Fatalf("%+v: %v", s, err)
	}
	if want := fmt.Sprintf("%d %+v %+v", s.time, s.subjects, s.sessions); shown(r) != want {
		t.Errorf("%s, not %s", shown(r), want)
	}
	if !bytes.Equal(r.State(), b) {
		t.Errorf("%q, not %q", r.State(), b)
	}
	return r
}

// refusesState holds Load to ErrState.
func refusesState(t *testing.T, what any, b []byte) {
	t.Helper()
	if r, err := Load(b); r != nil || err != api.ErrState {
		t.Error(what, err)
	}
}

// P17.6: all of a registry in bytes.
func TestState(t *testing.T) {
	c := begun(t)
	c.register("h", "a <- [xy]", 1)
	c.register("g", "a<-'x'", 1)
	c.register("g", "a<-[xy]", 2)
	c.retire("g", 1, 1)
	c.mode("h", 0, 0)
	other := opened(t, c.r)
	c.r.Apply(nil)
	other.find("g", 7, refuses(api.ErrVersion), "")
	opened(t, c.r)
	want := "\x01\x0a\x01\x09\x01\x03" +
		"\x01\x01\x01\x05\x01\x06\x01\x03\x00\x00\x00" +
		"\x01\x07\x01\x01\x01\x08\x01\x04\x01\x4a\x00\x00" +
		"\x01\x0a\x00\x01\x09\x00" +
		"\x01\x02" +
		"\x01\x01g\x01\x01\x01\x02\x01\x09a <- 'x'\n\x01\x01\x01\x0aa <- [xy]\n\x00" +
		"\x01\x01h\x00\x01\x01\x01\x0aa <- [xy]\n\x00"
	if got := c.r.State(); string(got) != want {
		t.Errorf("%q, not %q", got, want)
	}
	r, err := Load([]byte(want))
	if err != nil || shown(r) != shown(c.r) || string(r.State()) != want {
		t.Error(err)
	}
}

// P17.6: what may be is loaded, at all its edges; whether the gate would have let a version follow is not asked.
func TestLoad(t *testing.T) {
	loads(t, plainState{})
	loads(t, plainState{time: api.MaxInt})
	loads(t, plainState{clock: api.MaxInt})
	loads(t, usual())
	for _, change := range []func(s *plainState){
		func(s *plainState) { s.clock = api.MaxInt },
		func(s *plainState) { s.time, s.sessions[2].Id = api.MaxInt, api.MaxInt },
		func(s *plainState) { s.sessions[0].Last, s.sessions[0].Used = api.MaxInt, 1 },
		func(s *plainState) { s.sessions[0].Last, s.sessions[0].Reply = 0, nil },
		func(s *plainState) { s.sessions[0].Reply = joined(plainNum(5), plainNum(3), plainBlob("a")) },
		func(s *plainState) {
			s.sessions[0].Reply = joined(plainNum(api.MaxInt), plainNum(0), plainBlob(longest))
		},
		func(s *plainState) { s.sessions = nil },
		func(s *plainState) { s.subjects = nil },
		func(s *plainState) { s.subjects = s.subjects[1:] },
		func(s *plainState) { s.subjects[0].Name = "Z" },
		func(s *plainState) { s.subjects[0].Name = "_" },
		func(s *plainState) { s.subjects[1].Name = "ga" },
		func(s *plainState) { s.subjects[1].Name = strings.Repeat("h", api.MaxName) },
		func(s *plainState) { s.subjects[1].Mode = 1 },
		func(s *plainState) { s.subjects[0].Versions[2].Text = "a <- 'not x'\n" },
		func(s *plainState) {
			s.subjects[0].Versions = append(s.subjects[0].Versions, s.subjects[0].Versions[1:]...)
			s.subjects[0].Versions = append(s.subjects[0].Versions, api.Version{Text: "b <- .\n"})
		},
		func(s *plainState) {
			s.subjects = append(s.subjects, api.Subject{Name: "i", Versions: s.subjects[0].Versions}, api.Subject{Name: "j", Versions: s.subjects[0].Versions[:1]})
		},
		func(s *plainState) {
			for id := 8; len(s.sessions) < api.MaxSessions; id++ {
				s.sessions = slices.Insert(s.sessions, 2, api.Session{Id: 20 - id, Used: id})
			}
		},
	} {
		s := usual()
		change(&s)
		loads(t, s)
	}
}

// P17.6: what may not be is not loaded, for whatever one thing of it.
func TestLoadRefuses(t *testing.T) {
	versions := func(n int) []api.Version {
		var out []api.Version
		for i := range n {
			out = append(out, api.Version{Text: fmt.Sprintf("a <- '%d'\n", i)})
		}
		return out
	}
	for i, change := range []func(s *plainState){
		func(s *plainState) { s.clock = 39 },
		func(s *plainState) { s.time = 299 },
		func(s *plainState) { s.sessions[0].Id = 0 },
		func(s *plainState) { s.sessions[0].Id = 7 },
		func(s *plainState) { s.sessions[0].Id = 8 },
		func(s *plainState) { s.sessions[0].Used = 0 },
		func(s *plainState) { s.sessions[0].Used = 41 },
		func(s *plainState) { s.sessions[0].Used = 40 },
		func(s *plainState) { s.sessions[0].Last = 0 },
		func(s *plainState) { s.sessions[0].Reply = nil },
		func(s *plainState) { s.sessions[0].Reply = []byte("\x00\x00") },
		func(s *plainState) { s.sessions[0].Reply = []byte("\x00\x00\x00\x00") },
		func(s *plainState) { s.sessions[0].Reply = []byte("\x01\x00\x00\x00") },
		func(s *plainState) { s.sessions[2].Reply = joined(plainNum(0), plainNum(1), plainBlob(longest+"s")) },
		func(s *plainState) { s.sessions[0].Reply = make([]byte, api.MaxReply+1) },
		func(s *plainState) { s.sessions[1].Reply = []byte("\x00\x00\x00") },
		func(s *plainState) {
			for id := 301; len(s.sessions) <= api.MaxSessions; id++ {
				s.sessions = append(s.sessions, api.Session{Id: id, Used: id - 290})
			}
			s.time = 400
		},
		func(s *plainState) { s.subjects[0], s.subjects[1] = s.subjects[1], s.subjects[0] },
		func(s *plainState) { s.subjects[1].Name = "g" },
		func(s *plainState) { s.subjects[0].Name = "" },
		func(s *plainState) { s.subjects[0].Name = "1" },
		func(s *plainState) { s.subjects[0].Name = "g " },
		func(s *plainState) { s.subjects[0].Name = strings.Repeat("g", api.MaxName+1) },
		func(s *plainState) { s.subjects[0].Mode = 2 },
		func(s *plainState) { s.subjects[1].Mode = api.MaxInt },
		func(s *plainState) { s.subjects[0].Versions = nil },
		func(s *plainState) { s.subjects[0].Versions[1] = s.subjects[0].Versions[0] },
		func(s *plainState) {
			s.subjects[0].Versions[1] = api.Version{Text: s.subjects[0].Versions[2].Text, Retired: true}
		},
		func(s *plainState) { s.subjects[0].Versions = versions(api.MaxVersions + 1) },
		func(s *plainState) {
			for _, name := range []string{"i", "j", "k"} {
				s.subjects = append(s.subjects, api.Subject{Name: name, Versions: versions(1)})
			}
		},
	} {
		s := usual()
		change(&s)
		refusesState(t, i, s.bytes())
	}
}

// P17.6: a text that is not just what is printed of a sound grammar is not loaded, wherever it stands.
func TestLoadRefusesTexts(t *testing.T) {
	texts := []string{"a <- 'x'", "a <- 'x' \n", "a <- 'x'\n\n", "a<-'x'\n", "a <- ('x')\n", "a <- \"x\"\n", "a <- 'x' # note\n", "a <- '\\x61'\n", "a <- [zx]\n", "a <- \n"}
	for text := range wrong() {
		texts = append(texts, text, text+"\n")
	}
	for _, text := range texts {
		for i, v := range []int{0, 1, 2, 0} {
			s := usual()
			s.subjects[i/3].Versions[v].Text = text
			if !bytes.Contains(s.bytes(), []byte(text)) {
				t.Fatal(text)
			}
			refusesState(t, text, s.bytes())
		}
	}
}

// P17.6: bytes that are cut off, that go on, or that tell more than there may be, are no state.
func TestLoadRefusesBytes(t *testing.T) {
	b := usual().bytes()
	for end := range b {
		refusesState(t, end, b[:end])
	}
	refusesState(t, "more", append(slices.Clone(b), 0))
	refusesState(t, "twice", append(slices.Clone(b), b...))
	refusesState(t, "retired 2", append(slices.Clone(b[:len(b)-1]), 1, 2))
	refusesState(t, "retired 0 in two bytes", append(slices.Clone(b[:len(b)-1]), 1, 0))
	refusesState(t, "zeros", make([]byte, 1<<20))
	refusesState(t, "too many sessions", joined([]byte{0, 0, 8, 127, 255, 255, 255, 255, 255, 255, 255}, make([]byte, 1<<20)))
	refusesState(t, "too many subjects", joined([]byte{0, 0, 0, 8, 127, 255, 255, 255, 255, 255, 255, 255}, make([]byte, 1<<20)))
	refusesState(t, "a blob too long", joined([]byte{0, 0, 0, 1, 1}, plainBlob(strings.Repeat("g", api.MaxBlob+1))))
	for at := range b {
		for x := range 256 {
			changed := slices.Clone(b)
			changed[at] = byte(x)
			if r, err := Load(changed); err != nil {
				refusesState(t, at, changed)
			} else if !bytes.Equal(r.State(), changed) {
				t.Errorf("%d %d: %q, not %q", at, x, r.State(), changed)
			}
		}
	}
}

// P17.6, P17.2: what was loaded goes on: its sessions, its subjects, its time.
func TestLoadedGoesOn(t *testing.T) {
	s := usual()
	s.sessions[2].Reply = joined(plainNum(75), plainNum(3), plainBlob("as it was noted"))
	r := loads(t, s)
	again := func(id, seq int) api.Reply {
		return r.Apply(bytesOf(t, api.Command{Kind: api.CmdFind, Session: id, Seq: seq, Subject: "h"}))
	}
	wants(t, again(2, 5), api.Reply{Number: 1})
	wants(t, again(300, 1), api.Reply{Code: 75, Number: 3, Text: "as it was noted"})
	wants(t, again(2, 4), api.Reply{Code: api.ErrOld})
	wants(t, again(8, 1), api.Reply{Code: api.ErrExpired})
	wants(t, again(7, 1), api.Reply{Number: 1, Text: "a <- .\n"})
	if l := r.Sessions(); l[1].Last != 1 || l[1].Used != 41 {
		t.Errorf("%+v", l)
	}
	if c := opened(t, r); c.id != 306 {
		t.Error(c.id)
	}
	c := &client{t: t, r: r, id: 7, seq: 1}
	c.register("g", "a <- [ab]", refuses(api.ErrGate))
	c.register("g", "a <- [xy]", 4)
	c.retire("g", 4, 4)
	c.find("g", 0, 3, "a <- 'x'\n")
	c.register("h", "a <- 'ab'", 2)
}

// W1: also of a time, and of a clock, that can't go on, each call ends without a panic.
func TestGreatestTime(t *testing.T) {
	s := usual()
	s.time, s.clock = api.MaxInt, api.MaxInt
	r := loads(t, s)
	for range 3 {
		for _, c := range []api.Command{{}, {Kind: api.CmdOpen}, {Kind: api.CmdFind, Session: 7, Seq: 1, Subject: "g"}, {Kind: api.CmdRegister, Session: 7, Seq: 2, Subject: "i", Text: "a <- ."}} {
			r.Apply(bytesOf(t, c))
		}
		Load(r.State())
		r.List()
		r.Sessions()
	}
	wants(t, r.Find("i", 0), api.Reply{Number: 1, Text: "a <- .\n"})
}

// FuzzLoad has bytes be a state's: P17.6, P17.8.
func FuzzLoad(f *testing.F) {
	f.Add([]byte{0, 0, 0, 0})
	f.Add(usual().bytes())
	f.Fuzz(func(t *testing.T, b []byte) {
		r, err := Load(b)
		if err != nil {
			refusesState(t, "drawn", b)
			return
		}
		if !bytes.Equal(r.State(), b) {
			t.Errorf("%q, not %q", r.State(), b)
		}
		loads(t, plainState{time: r.Now(), clock: r.sessions.Clock(), sessions: r.Sessions(), subjects: r.List()})
	})
}
