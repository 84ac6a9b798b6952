package session

import (
	"slices"
	"sync"
	"testing"

	"muntin/api"
)

// roomy is a reply with spare room, and something in it.
func roomy(s string) []byte {
	out := append(make([]byte, 0, len(s)+4), s...)
	_ = append(out, "room"...)
	return out
}

// whole is a reply, its spare room too.
func whole(b []byte) string { return string(b[:cap(b)]) }

// spoil changes all of a reply, its spare room too.
func spoil(b []byte) {
	for i := range b[:cap(b)] {
		b[:cap(b)][i] = '!'
	}
}

// spoilAll changes all of sessions, the spare room of the list and of each reply too.
func spoilAll(l []api.Session) {
	for i := range l[:cap(l)] {
		spoil(l[:cap(l)][i].Reply)
		l[:cap(l)][i] = api.Session{Id: -1, Last: -1, Used: -1}
	}
}

// three are sessions with spare room, in the list and in the replies.
func three() []api.Session {
	l := append(make([]api.Session, 0, 5), api.Session{Id: 1, Last: 4, Used: 3, Reply: roomy("four")}, api.Session{Id: 2, Used: 6}, api.Session{Id: 5, Last: 1, Used: 1, Reply: roomy("one")})
	_ = append(l, api.Session{Id: 9, Last: 9, Used: 9, Reply: roomy("nine")})
	return l
}

// restored is a table with three sessions.
func restored(t testing.TB, l []api.Session) *Table {
	t.Helper()
	s, err := Restore(l, 8)
	if err != nil {
		t.Fatal(err)
	}
	return s
}

// P16.5: a reply that is noted, its spare room too, is as it was, and none of it is kept.
func TestNotedIsNeitherChangedNorKept(t *testing.T) {
	s := New()
	opens(t, s, 1, 0)
	opens(t, s, 2, 0)
	reply := roomy("reply")
	for seq := 1; seq < 4; seq++ {
		notes(t, s, 2, seq, "")
		if err := s.Note(1, seq, reply); err != nil || whole(reply) != "replyroom" {
			t.Fatal(err, whole(reply))
		}
		if err := s.Note(1, seq, reply); err != api.ErrArg || whole(reply) != "replyroom" {
			t.Fatal(err, whole(reply))
		}
	}
	if err := s.Note(2, 4, reply); err != nil {
		t.Fatal(err)
	}
	spoil(reply)
	asks(t, s, 1, 3, api.AskDone, "reply")
	asks(t, s, 2, 4, api.AskDone, "reply")
	notes(t, s, 1, 4, "another")
	opens(t, s, 3, 0)
	if whole(reply) != "!!!!!!!!!" {
		t.Error(whole(reply))
	}
}

// P16.5: a list that is restored, its spare room too, is as it was, and none of it is kept, refused or not.
func TestRestoredIsNeitherChangedNorKept(t *testing.T) {
	l := three()
	was := told(l[:cap(l)])
	s := restored(t, l)
	notes(t, s, 2, 1, "a")
	notes(t, s, 5, 2, "longer than one")
	opens(t, s, 4, 0)
	for _, clock := range []int{-1, 0, 5} {
		if s, err := Restore(l, clock); s != nil || err != api.ErrArg {
			t.Error(clock, err)
		}
	}
	if told(l[:cap(l)]) != was || whole(l[0].Reply) != "fourroom" || whole(l[2].Reply) != "oneroom" {
		t.Error(told(l[:cap(l)]), "not", was)
	}
	s = restored(t, l)
	spoilAll(l)
	holds(t, s, 8, three()...)
}

// P16.5: Replies that share their memory are kept apart.
func TestRestoredRepliesAreKeptApart(t *testing.T) {
	shared := []byte("shared")
	s := restored(t, []api.Session{{Id: 1, Last: 1, Used: 1, Reply: shared[:2]}, {Id: 2, Last: 1, Used: 2, Reply: shared[1:]}, {Id: 3, Last: 1, Used: 3, Reply: shared}})
	l := s.List()
	spoil(l[2].Reply)
	if string(l[0].Reply) != "sh" || string(l[1].Reply) != "hared" {
		t.Error(told(l))
	}
	spoilAll(l)
	asks(t, s, 1, 1, api.AskDone, "sh")
	asks(t, s, 2, 1, api.AskDone, "hared")
	asks(t, s, 3, 1, api.AskDone, "shared")
}

// P16.5: what is answered is new memory, its spare room too.
func TestAnswersAreNewMemory(t *testing.T) {
	s := restored(t, three())
	want := []api.Session{{Id: 1, Last: 4, Used: 3, Reply: []byte("four")}, {Id: 2, Last: 1, Used: 9, Reply: []byte("two")}, {Id: 5, Last: 1, Used: 1, Reply: []byte("one")}}
	notes(t, s, 2, 1, "two")
	for _, session := range want {
		_, reply := s.Ask(session.Id, session.Last)
		spoil(reply)
		asks(t, s, session.Id, session.Last, api.AskDone, string(session.Reply))
	}
	first, second := s.List(), s.List()
	spoilAll(first)
	if told(second) != told(want) {
		t.Error(told(second), "not", told(want))
	}
	holds(t, s, 9, want...)
}

// P16.5: no two Replies of a List share memory: what is put behind one is in no other one.
func TestRepliesOfAListAreApart(t *testing.T) {
	s := restored(t, three())
	notes(t, s, 2, 1, "two")
	want := told(s.List())
	for i := range 3 {
		l := s.List()
		at := told(l[i : i+1])
		spoil(l[i].Reply)
		_ = append(l[i].Reply, "and some more behind it"...)
		rest := told(slices.Delete(slices.Clone(l), i, i+1))
		fresh := s.List()
		if told(fresh) != want || told(fresh[i:i+1]) != at || rest != told(slices.Delete(fresh, i, i+1)) {
			t.Error(i, rest, told(fresh))
		}
	}
}

// P16.5: a table that is restored from another one's List goes its own way.
func TestRestoredGoesItsOwnWay(t *testing.T) {
	s := restored(t, three())
	l := s.List()
	other, err := Restore(l, s.Clock())
	if err != nil {
		t.Fatal(err)
	}
	notes(t, s, 1, 5, "five")
	opens(t, other, 7, 0)
	notes(t, other, 5, 3, "three")
	spoilAll(l)
	holds(t, s, 9, api.Session{Id: 1, Last: 5, Used: 9, Reply: []byte("five")}, api.Session{Id: 2, Used: 6}, api.Session{Id: 5, Last: 1, Used: 1, Reply: []byte("one")})
	holds(t, other, 10, api.Session{Id: 1, Last: 4, Used: 3, Reply: []byte("four")}, api.Session{Id: 2, Used: 6}, api.Session{Id: 5, Last: 3, Used: 10, Reply: []byte("three")}, api.Session{Id: 7, Used: 9})
}

// P16.3, P16.4, with W5: lists that are empty are as good as none.
func TestEmptyLists(t *testing.T) {
	for _, l := range [][]api.Session{nil, {}} {
		s, err := Restore(l, 4)
		if err != nil {
			t.Fatal(err)
		}
		holds(t, s, 4)
	}
	for _, reply := range [][]byte{nil, {}} {
		s := New()
		opens(t, s, 1, 0)
		if err := s.Note(1, 2, reply); err != nil {
			t.Error(err)
		}
		asks(t, s, 1, 2, api.AskDone, "")
		holds(t, s, 2, api.Session{Id: 1, Last: 2, Used: 2})
		s, err := Restore([]api.Session{{Id: 1, Used: 1, Reply: reply}, {Id: 2, Last: 3, Used: 2, Reply: reply}}, 2)
		if err != nil {
			t.Fatal(err)
		}
		asks(t, s, 1, 0, api.AskOld, "")
		asks(t, s, 2, 3, api.AskDone, "")
	}
}

// P16.2, P16.4, with W2: tables know nothing of each other, at one time; nor do calls that change nothing.
func TestCallsAtOneTime(t *testing.T) {
	same := restored(t, three())
	var group sync.WaitGroup
	for i := range 8 {
		group.Go(func() {
			for range 20 {
				own := full(t)
				notes(t, own, 2, i+1, "own")
				opens(t, own, 9+i, 1)
				opens(t, own, 90+i, 3)
				asks(t, own, 2, i+1, api.AskDone, "own")
				asks(t, same, 1, 4, api.AskDone, "four")
				holds(t, same, 8, three()...)
				holds(t, restored(t, three()), 8, three()...)
			}
		})
	}
	group.Wait()
}
