package session

import (
	"bytes"
	"fmt"
	"slices"
	"testing"

	"muntin/api"
)

// shown is all that can be seen of a table.
func shown(t *Table) string { return fmt.Sprint(t.Clock(), told(t.List())) }

// told is the text of sessions, of long replies a part.
func told(l []api.Session) string {
	out := ""
	for _, s := range l {
		out += fmt.Sprintf(" {%d: %d %q of %d, %d}", s.Id, s.Last, s.Reply[:min(len(s.Reply), 20)], len(s.Reply), s.Used)
	}
	return out
}

// opens holds Open to its answer.
func opens(t *testing.T, s *Table, id, dropped int) {
	t.Helper()
	if n, err := s.Open(id); n != dropped || err != nil {
		t.Errorf("open %d: %d %v, not %d", id, n, err, dropped)
	}
}

// notes holds Note to no error.
func notes(t *testing.T, s *Table, id, seq int, reply string) {
	t.Helper()
	if err := s.Note(id, seq, []byte(reply)); err != nil {
		t.Error("note", id, seq, err)
	}
}

// asks holds Ask to its answer, and to change nothing.
func asks(t *testing.T, s *Table, id, seq, want int, reply string) {
	t.Helper()
	was := shown(s)
	if is, r := s.Ask(id, seq); is != want || string(r) != reply {
		t.Errorf("ask %d %d: %d %.20q, not %d %.20q", id, seq, is, r, want, reply)
	}
	if shown(s) != was {
		t.Error("ask", id, seq, "changed", was, "to", shown(s))
	}
}

// refusesOpen holds Open to ErrArg, with nothing changed.
func refusesOpen(t *testing.T, s *Table, id int) {
	t.Helper()
	was := shown(s)
	if n, err := s.Open(id); n != 0 || err != api.ErrArg || shown(s) != was {
		t.Error("open", id, n, err, shown(s), "not", was)
	}
}

// refusesNote holds Note to an error, with nothing changed.
func refusesNote(t *testing.T, s *Table, id, seq int, reply []byte, want error) {
	t.Helper()
	was := shown(s)
	if err := s.Note(id, seq, reply); err != want || shown(s) != was {
		t.Error("note", id, seq, len(reply), err, "not", want, shown(s), "not", was)
	}
}

// holds holds a table to sessions and a clock.
func holds(t *testing.T, s *Table, clock int, want ...api.Session) {
	t.Helper()
	if s.Clock() != clock || told(s.List()) != told(want) {
		t.Error(shown(s), "not", clock, told(want))
	}
}

// full is a table in which the Ids from 1 on were opened, as many as there may be.
func full(t *testing.T) *Table {
	t.Helper()
	s := New()
	for id := 1; id <= api.MaxSessions; id++ {
		opens(t, s, id, 0)
	}
	return s
}

// P16.1 to P16.3
func TestExamplesOfTheChapter(t *testing.T) {
	s := New()
	opens(t, s, 5, 0)
	refusesOpen(t, s, 5)
	asks(t, s, 5, 1, api.AskNew, "")
	notes(t, s, 5, 1, "a")
	asks(t, s, 5, 1, api.AskDone, "a")
	asks(t, s, 5, 0, api.AskOld, "")
	asks(t, s, 6, 1, api.AskGone, "")
	for i := range 7 {
		opens(t, s, 10+i, 0)
	}
	opens(t, s, 17, 5)
	asks(t, s, 5, 1, api.AskGone, "")
}

// P16.1: the one that was used least lately need not be the one that was opened first.
func TestTheOtherExampleOfTheChapter(t *testing.T) {
	s := New()
	opens(t, s, 5, 0)
	for i := range 7 {
		opens(t, s, 10+i, 0)
	}
	notes(t, s, 5, 1, "a")
	opens(t, s, 17, 10)
	asks(t, s, 5, 1, api.AskDone, "a")
	asks(t, s, 10, 1, api.AskGone, "")
}

// P16.1, P16.4
func TestNewHasNone(t *testing.T) {
	s := New()
	holds(t, s, 0)
	asks(t, s, 1, 1, api.AskGone, "")
	asks(t, s, 0, 0, api.AskGone, "")
	refusesNote(t, s, 1, 1, nil, api.ErrArg)
	opens(t, s, 1, 0)
	holds(t, New(), 0)
}

// P16.1, P16.4: of a session that is opened Last is 0, there is no Reply, and Used is what the clock shows then.
func TestOpen(t *testing.T) {
	s := New()
	opens(t, s, 7, 0)
	holds(t, s, 1, api.Session{Id: 7, Used: 1})
	opens(t, s, api.MaxInt, 0)
	opens(t, s, 1, 0)
	holds(t, s, 3, api.Session{Id: 1, Used: 3}, api.Session{Id: 7, Used: 1}, api.Session{Id: api.MaxInt, Used: 2})
}

// P16.1, with W3: Ids that may not be, and those that are there, of a table with room and of a full one.
func TestOpenIsRefused(t *testing.T) {
	some := New()
	opens(t, some, 3, 0)
	notes(t, some, 3, 4, "b")
	all := full(t)
	for _, id := range []int{0, -1, -3, api.MinInt, 3} {
		refusesOpen(t, some, id)
		refusesOpen(t, all, id)
	}
	for id := 1; id <= api.MaxSessions; id++ {
		refusesOpen(t, all, id)
	}
	opens(t, all, 9, 1)
}

// P16.1: only the last one that is too many drops another one; that is the one with the least Used, though Notes of others, Asks and calls that are refused stand between.
func TestWhichOneIsDropped(t *testing.T) {
	s := full(t)
	notes(t, s, 1, 1, "a")
	notes(t, s, 3, 9, "")
	asks(t, s, 2, 1, api.AskNew, "")
	refusesNote(t, s, 2, 0, nil, api.ErrArg)
	refusesNote(t, s, 2, 1, make([]byte, api.MaxReply+1), api.ErrLong)
	refusesOpen(t, s, 2)
	for i, dropped := range []int{2, 4, 5, 6, 7, 8, 1, 3, 100, 101} {
		opens(t, s, 100+i, dropped)
		asks(t, s, dropped, 1, api.AskGone, "")
		if len(s.List()) != api.MaxSessions {
			t.Error(shown(s))
		}
	}
	if s.Clock() != api.MaxSessions+2+10 {
		t.Error(s.Clock())
	}
}

// P16.1: neither the least Id nor the greatest one, nor the least Last, tells which one is dropped.
func TestDroppedIsTheLeastUsed(t *testing.T) {
	for least := range api.MaxSessions {
		var l []api.Session
		for i := range api.MaxSessions {
			l = append(l, api.Session{Id: 10 * (i + 1), Last: 50 - i*i, Used: 1 + (i-least+api.MaxSessions)%api.MaxSessions})
		}
		s, err := Restore(l, 20)
		if err != nil {
			t.Fatal(err)
		}
		for i := range 2 * api.MaxSessions {
			want := 10 * (1 + (least+i)%api.MaxSessions)
			if i >= api.MaxSessions {
				want = 1000 - (i - api.MaxSessions)
			}
			opens(t, s, 1000-i, want)
		}
	}
}

// P16.1: one that was dropped is opened anew as any other: nothing that it did is known.
func TestOpenAnew(t *testing.T) {
	s := full(t)
	notes(t, s, 1, 6, "six")
	for i := range 7 {
		opens(t, s, 20+i, 2+i)
	}
	opens(t, s, 30, 1)
	asks(t, s, 1, 6, api.AskGone, "")
	refusesNote(t, s, 1, 7, nil, api.ErrArg)
	opens(t, s, 1, 20)
	asks(t, s, 1, 6, api.AskNew, "")
	asks(t, s, 1, 0, api.AskOld, "")
	notes(t, s, 1, 1, "one")
	asks(t, s, 1, 1, api.AskDone, "one")
}

// P16.2
func TestAsk(t *testing.T) {
	s := New()
	opens(t, s, 2, 0)
	opens(t, s, 4, 0)
	opens(t, s, 6, 0)
	notes(t, s, 4, 5, "five")
	notes(t, s, 6, api.MaxInt, "")
	for _, x := range []struct {
		id, seq, want int
		reply         string
	}{
		{2, 1, api.AskNew, ""}, {2, api.MaxInt, api.AskNew, ""}, {2, 0, api.AskOld, ""}, {2, -1, api.AskOld, ""}, {2, api.MinInt, api.AskOld, ""},
		{4, 6, api.AskNew, ""}, {4, 99, api.AskNew, ""}, {4, api.MaxInt, api.AskNew, ""}, {4, 5, api.AskDone, "five"}, {4, 4, api.AskOld, ""}, {4, 1, api.AskOld, ""}, {4, 0, api.AskOld, ""}, {4, -5, api.AskOld, ""}, {4, api.MinInt, api.AskOld, ""},
		{6, api.MaxInt, api.AskDone, ""}, {6, api.MaxInt - 1, api.AskOld, ""}, {6, 0, api.AskOld, ""},
		{0, 0, api.AskGone, ""}, {1, 5, api.AskGone, ""}, {3, 5, api.AskGone, ""}, {5, 5, api.AskGone, ""}, {-4, 5, api.AskGone, ""}, {7, 0, api.AskGone, ""}, {api.MaxInt, 1, api.AskGone, ""}, {api.MinInt, -1, api.AskGone, ""},
	} {
		asks(t, s, x.id, x.seq, x.want, x.reply)
	}
}

// P16.3, P16.4: numbers may be left out; the last one's reply is kept alone.
func TestNote(t *testing.T) {
	s := New()
	opens(t, s, 1, 0)
	opens(t, s, 2, 0)
	notes(t, s, 1, 1, "first")
	holds(t, s, 3, api.Session{Id: 1, Last: 1, Used: 3, Reply: []byte("first")}, api.Session{Id: 2, Used: 2})
	notes(t, s, 1, 2, "2")
	notes(t, s, 2, 700, "\x00\xff")
	notes(t, s, 1, 9, "")
	holds(t, s, 6, api.Session{Id: 1, Last: 9, Used: 6}, api.Session{Id: 2, Last: 700, Used: 5, Reply: []byte("\x00\xff")})
	notes(t, s, 2, api.MaxInt, "end")
	holds(t, s, 7, api.Session{Id: 1, Last: 9, Used: 6}, api.Session{Id: 2, Last: api.MaxInt, Used: 7, Reply: []byte("end")})
}

// P16.3: what is not new is not noted, whatever the reply, nor one that is too long.
func TestNoteIsRefused(t *testing.T) {
	s := New()
	opens(t, s, 3, 0)
	opens(t, s, 4, 0)
	notes(t, s, 4, 8, "eight")
	long := make([]byte, api.MaxReply+1)
	for _, x := range [][2]int{{3, 0}, {3, -1}, {3, api.MinInt}, {4, 8}, {4, 7}, {4, 1}, {4, 0}, {4, -8}, {5, 1}, {5, 0}, {0, 1}, {-3, 1}, {api.MinInt, 1}, {api.MaxInt, api.MaxInt}} {
		refusesNote(t, s, x[0], x[1], nil, api.ErrArg)
		refusesNote(t, s, x[0], x[1], []byte("eight"), api.ErrArg)
		refusesNote(t, s, x[0], x[1], long, api.ErrArg)
	}
	refusesNote(t, s, 3, 1, long, api.ErrLong)
	refusesNote(t, s, 4, 9, make([]byte, 3*api.MaxReply), api.ErrLong)
	asks(t, s, 4, 9, api.AskNew, "")
}

// P16.3: a reply at the limit is fine.
func TestLongestReply(t *testing.T) {
	s := New()
	opens(t, s, 1, 0)
	reply := string(bytes.Repeat([]byte("reply..."), api.MaxReply/8))
	notes(t, s, 1, 1, reply)
	asks(t, s, 1, 1, api.AskDone, reply)
	notes(t, s, 1, 2, reply[1:])
	asks(t, s, 1, 2, api.AskDone, reply[1:])
}

// P16.4: by rising Ids, in whatever order they were opened.
func TestListRises(t *testing.T) {
	ids := []int{40, 3, api.MaxInt, 1, 39, 1 << 40, 2, 41}
	for turn := range ids {
		s := New()
		for i := range ids {
			opens(t, s, ids[(turn+i)%len(ids)], 0)
		}
		var got []int
		for _, session := range s.List() {
			got = append(got, session.Id)
		}
		if !slices.Equal(got, []int{1, 2, 3, 39, 40, 41, 1 << 40, api.MaxInt}) {
			t.Error(got)
		}
	}
}

// many are so many sessions that may stand in one table.
func many(n int) []api.Session {
	var out []api.Session
	for i := range n {
		out = append(out, api.Session{Id: i + 1, Last: 1, Used: n - i, Reply: make([]byte, api.MaxReply)})
	}
	return out
}

// P16.4
func TestRestore(t *testing.T) {
	for i, x := range []struct {
		l     []api.Session
		clock int
	}{
		{nil, 0}, {nil, 1}, {nil, api.MaxInt},
		{[]api.Session{{Id: 1, Used: 1}}, 1}, {[]api.Session{{Id: 1, Used: 1}}, 2}, {[]api.Session{{Id: api.MaxInt, Used: api.MaxInt}}, api.MaxInt},
		{[]api.Session{{Id: 9, Used: 1, Last: 1}}, 1}, {[]api.Session{{Id: 9, Used: 3, Last: api.MaxInt, Reply: []byte("a")}}, 3},
		{[]api.Session{{Id: 1, Used: 5}, {Id: 2, Used: 4}, {Id: 9, Used: 9}}, 9},
		{many(api.MaxSessions), api.MaxSessions}, {many(api.MaxSessions - 1), 99},
	} {
		s, err := Restore(x.l, x.clock)
		if err != nil {
			t.Error(i, err)
			continue
		}
		holds(t, s, x.clock, x.l...)
	}
}

// P16.4, with W3: each thing that may not be, alone, in sessions that otherwise may.
func TestRestoreIsRefused(t *testing.T) {
	a, b, c := api.Session{Id: 2, Used: 3}, api.Session{Id: 4, Used: 2, Last: 5, Reply: []byte("r")}, api.Session{Id: 6, Used: 7, Last: 1}
	if s, err := Restore([]api.Session{a, b, c}, 7); s == nil || err != nil {
		t.Fatal(err)
	}
	with := func(change func(*api.Session)) []api.Session {
		changed := b
		change(&changed)
		return []api.Session{a, changed, c}
	}
	for i, x := range []struct {
		l     []api.Session
		clock int
	}{
		{nil, -1}, {nil, api.MinInt}, {[]api.Session{a, b, c}, -7},
		{[]api.Session{a, b, c}, 6}, {[]api.Session{a, b, c}, 0},
		{[]api.Session{b, a, c}, 7}, {[]api.Session{a, c, b}, 7}, {[]api.Session{c, b, a}, 7}, {[]api.Session{a, a}, 7}, {[]api.Session{{Used: 1}}, 1}, {[]api.Session{{Used: 1}, a}, 7}, {[]api.Session{{Id: -1, Used: 1}}, 7}, {[]api.Session{{Id: api.MinInt, Used: 1}, b}, 7},
		{with(func(s *api.Session) { s.Id = 2 }), 7}, {with(func(s *api.Session) { s.Id = 6 }), 7}, {with(func(s *api.Session) { s.Id = 7 }), 7}, {with(func(s *api.Session) { s.Id = 1 }), 7}, {with(func(s *api.Session) { s.Id = 0 }), 7},
		{with(func(s *api.Session) { s.Used = 3 }), 7}, {with(func(s *api.Session) { s.Used = 7 }), 7}, {with(func(s *api.Session) { s.Used = 0 }), 7}, {with(func(s *api.Session) { s.Used = -2 }), 7}, {with(func(s *api.Session) { s.Used = 8 }), 7}, {with(func(s *api.Session) { s.Used = api.MinInt }), 7}, {with(func(s *api.Session) { s.Used = api.MaxInt }), 7},
		{with(func(s *api.Session) { s.Last = 0 }), 7}, {with(func(s *api.Session) { s.Last = -1 }), 7}, {with(func(s *api.Session) { s.Last, s.Reply = -1, nil }), 7}, {with(func(s *api.Session) { s.Last, s.Reply = api.MinInt, nil }), 7},
		{with(func(s *api.Session) { s.Reply = make([]byte, api.MaxReply+1) }), 7},
		{many(api.MaxSessions + 1), 99}, {many(400), 400},
		{[]api.Session{{Id: 1, Used: 0}}, 0}, {[]api.Session{{Id: 1, Used: 1}}, 0},
		{[]api.Session{{Id: 1, Used: 9}, {Id: 2, Used: 4}, {Id: 3, Used: 9}}, 9},
	} {
		if s, err := Restore(x.l, x.clock); s != nil || err != api.ErrArg {
			t.Error(i, told(x.l), x.clock, err)
		}
	}
}

// P16.1, P16.3, P16.4: what is restored goes on behind the clock that was handed in, up to its greatest number too.
func TestRestoredGoesOn(t *testing.T) {
	s, err := Restore([]api.Session{{Id: 3, Used: 2, Last: 4, Reply: []byte("d")}, {Id: 5, Used: 1}}, 7)
	if err != nil {
		t.Fatal(err)
	}
	asks(t, s, 3, 4, api.AskDone, "d")
	asks(t, s, 3, 3, api.AskOld, "")
	asks(t, s, 4, 4, api.AskGone, "")
	refusesOpen(t, s, 3)
	notes(t, s, 5, 1, "e")
	opens(t, s, 4, 0)
	holds(t, s, 9, api.Session{Id: 3, Used: 2, Last: 4, Reply: []byte("d")}, api.Session{Id: 4, Used: 9}, api.Session{Id: 5, Last: 1, Used: 8, Reply: []byte("e")})
	s, err = Restore(nil, api.MaxInt-1)
	if err != nil {
		t.Fatal(err)
	}
	opens(t, s, 1, 0)
	holds(t, s, api.MaxInt, api.Session{Id: 1, Used: api.MaxInt})
}
