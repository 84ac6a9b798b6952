package registry

import (
	"bytes"
	"fmt"
	"slices"
	"strings"
	"sync"
	"testing"

	"muntin/api"
)

// roomy are bytes with spare room, and something in it.
func roomy(b []byte) []byte {
	out := append(make([]byte, 0, len(b)+4), b...)
	_ = append(out, "room"...)
	return out
}

// isUntouched tells whether such bytes are as they were, their spare room too.
func isUntouched(b, was []byte) bool {
	return bytes.Equal(b, was) && string(b[len(b):cap(b)]) == "room"
}

// spoil changes all of bytes, their spare room too.
func spoil(b []byte) {
	for i := range b[:cap(b)] {
		b[:cap(b)][i] = '!'
	}
}

// spoilAll changes all of lists, the spare room of each one too.
func spoilAll(subjects []api.Subject, sessions []api.Session) {
	for i := range subjects[:cap(subjects)] {
		s := &subjects[:cap(subjects)][i]
		for v := range s.Versions[:cap(s.Versions)] {
			s.Versions[:cap(s.Versions)][v] = api.Version{Text: "!", Retired: true}
		}
		*s = api.Subject{Name: "!", Mode: -1}
	}
	for i := range sessions[:cap(sessions)] {
		spoil(sessions[:cap(sessions)][i].Reply)
		sessions[:cap(sessions)][i] = api.Session{Id: -1, Last: -1, Used: -1}
	}
}

// P17.7: the bytes of a command, their spare room too, are as they were, and none of them is kept, nor by what is read of them.
func TestCommandsAreNeitherChangedNorKept(t *testing.T) {
	r := New()
	for _, c := range []api.Command{
		{Kind: api.CmdOpen},
		{Kind: api.CmdRegister, Session: 1, Seq: 1, Subject: "g", Text: "a <- 'x'"},
		{Kind: api.CmdRegister, Session: 1, Seq: 2, Subject: "g", Text: "a <- 'y'"},
		{Kind: api.CmdMode, Session: 1, Seq: 3, Subject: "g"},
		{Kind: api.CmdRetire, Session: 1, Seq: 4, Subject: "g", Number: 1},
		{Kind: api.CmdFind, Session: 1, Seq: 5, Subject: "g", Number: 1},
	} {
		was := bytesOf(t, c)
		b := roomy(was)
		got, err := Command(b)
		reply := r.Apply(b)
		if !isUntouched(b, was) {
			t.Errorf("%q", b[:cap(b)])
		}
		kept, answered := shown(r), fmt.Sprint(reply)
		spoil(b)
		if err != nil || got != c || shown(r) != kept || fmt.Sprint(reply) != answered {
			t.Error(got, shown(r), "not", kept)
		}
	}
	if s := fmt.Sprint(r.List()); s != "[{g 0 [{a <- 'x'\n true}]}]" {
		t.Error(s)
	}
}

// P17.7: the bytes of a reply, and of a state, are as they were, and none of them is kept, taken or refused.
func TestReadIsNeitherChangedNorKept(t *testing.T) {
	for _, want := range []api.Reply{{}, {Number: 3, Text: "a <- .\n"}} {
		was, _ := Answer(want)
		b := roomy(was)
		r, err := Reply(b)
		if !isUntouched(b, was) {
			t.Errorf("%q", b[:cap(b)])
		}
		spoil(b)
		if err != nil || r != want {
			t.Error(r, err)
		}
	}
	was := usual().bytes()
	for _, end := range []int{len(was), len(was) - 1, 3} {
		b := roomy(was[:end])
		r, err := Load(b)
		if !isUntouched(b, was[:end]) || (err == nil) != (end == len(was)) {
			t.Errorf("%d: %q %v", end, b[:cap(b)], err)
		}
		spoil(b)
		if err == nil && !bytes.Equal(r.State(), was) {
			t.Errorf("%q, not %q", r.State(), was)
		}
	}
}

// P17.7: what is answered is new memory, its spare room too.
func TestAnswersAreNewMemory(t *testing.T) {
	r := loads(t, usual())
	want, state := shown(r), r.State()
	spoilAll(r.List(), r.Sessions())
	spoil(r.State())
	if shown(r) != want || !bytes.Equal(r.State(), state) {
		t.Error(shown(r), "not", want)
	}
	first, sessions := r.List(), r.Sessions()
	spoilAll(r.List(), r.Sessions())
	if fmt.Sprintf("%d %+v %+v", r.Now(), first, sessions) != want {
		t.Error(first, sessions)
	}
	c := &client{t: t, r: r, id: 7}
	c.retire("g", 1, 1)
	c.mode("h", 1, 1)
	c.register("g", "a <- 'x' / 'z'", 4)
	if s := fmt.Sprintf("%+v", first); s != fmt.Sprintf("%+v", usual().subjects) {
		t.Error(s)
	}
	command := api.Command{Kind: api.CmdFind, Session: 1, Seq: 1, Subject: "g"}
	spoil(bytesOf(t, command))
	if b, is := plain(command); !is || !bytes.Equal(bytesOf(t, command), b) {
		t.Error(b)
	}
	b, _ := Answer(api.Reply{Text: "g"})
	spoil(b)
	if b, _ := Answer(api.Reply{Text: "g"}); string(b) != "\x00\x00\x01\x01g" {
		t.Error(b)
	}
}

// P17.7: no two lists of one answer share memory: what is put behind one is in no other one, nor is it kept.
func TestListsAreApart(t *testing.T) {
	r := loads(t, usual())
	want := usual().subjects
	for i := range want {
		l := r.List()
		_ = append(l[i].Versions, api.Version{Text: "1"}, api.Version{Text: "2"}, api.Version{Text: "3"})
		spoilAll(l[i:i+1:i+1], nil)
		if rest := slices.Delete(slices.Clone(l), i, i+1); !isSame(rest[0], want[1-i]) {
			t.Error(i, rest)
		}
		if !slices.EqualFunc(r.List(), want, isSame) {
			t.Error(i, r.List())
		}
	}
}

// P17.8: what is loaded of a registry's State goes its own way.
func TestLoadedGoesItsOwnWay(t *testing.T) {
	r := loads(t, usual())
	other, err := Load(r.State())
	if err != nil {
		t.Fatal(err)
	}
	was := shown(r)
	c := &client{t: t, r: other, id: 7}
	c.retire("g", 1, 1)
	c.register("h", "a <- . / ()", 2)
	c.register("i", "a <- .", 1)
	c.mode("g", 0, 0)
	if shown(r) != was || strings.Contains(was, "{Name:i") || !strings.Contains(shown(other), "{Name:i") {
		t.Error(shown(r), "not", was)
	}
}

// P17.1, P17.7: a text that is none is no bytes, and back.
func TestEmpty(t *testing.T) {
	for _, b := range [][]byte{nil, {}} {
		refusesCommand(t, b)
		refusesReply(t, b)
		refusesState(t, "empty", b)
		wants(t, New().Apply(b), api.Reply{Code: api.ErrCommand})
	}
}

// P17.4, P17.5, with W2: registries know nothing of each other, at one time; nor do calls that change nothing.
func TestCallsAtOneTime(t *testing.T) {
	same := loads(t, usual())
	want, state := shown(same), same.State()
	var group sync.WaitGroup
	for i := range 8 {
		group.Go(func() {
			for range 20 {
				own := begun(t)
				own.register("g", fmt.Sprintf("a <- '%d'", i), 1)
				own.find("g", 0, 1, fmt.Sprintf("a <- '%d'\n", i))
				wants(t, same.Find("g", 0), api.Reply{Number: 3, Text: "a <- 'x'\n"})
				if shown(same) != want || !bytes.Equal(same.State(), state) {
					t.Error(shown(same))
				}
				loads(t, usual())
			}
		})
	}
	group.Wait()
}
