package session

import (
	"bytes"
	"fmt"
	"strings"
	"testing"

	"muntin/api"
)

// dice are numbers that look like chance, the same ones in every run.
type dice uint64

// roll is a number below n.
func (d *dice) roll(n int) int {
	*d = *d*6364136223846793005 + 1442695040888963407
	return int(*d>>33) % n
}

// call is one of a table that may change it: of Note, if it is one, else of Open.
type call struct {
	isNote  bool
	id, seq int
	reply   string
}

// call is one of a few Ids and numbers: most of them as they may be, some not.
func (d *dice) call(ids int) call {
	c := call{isNote: d.roll(5) > 0, id: d.roll(ids+2) - 1, seq: d.roll(9) - 1, reply: strings.Repeat("abc"[d.roll(3):], d.roll(3))}
	switch d.roll(40) {
	case 0:
		c.reply = strings.Repeat("long", api.MaxReply/4)
	case 1:
		c.reply = strings.Repeat("long", api.MaxReply/4) + "x"
	case 2:
		c.id = []int{api.MinInt, -5, api.MaxInt}[d.roll(3)]
	case 3:
		c.seq = []int{api.MinInt, -5, 100}[d.roll(3)]
	}
	return c
}

// do is what a table answers to a call, in words.
func (c call) do(s *Table) string {
	if c.isNote {
		return fmt.Sprintf("noted %v", s.Note(c.id, c.seq, []byte(c.reply)))
	}
	dropped, err := s.Open(c.id)
	return fmt.Sprintf("opened %d %v", dropped, err)
}

// judge tells the chapter another way: it keeps all that was done without an error, and looks back. What the clock showed then is how manieth it was.
type judge []deed

// deed is a call that was done, and the Id that it dropped.
type deed struct {
	call
	dropped int
}

// latest is how manieth the latest deed of an Id is; 0, if it is not there.
func (j judge) latest(id int) int {
	for i := len(j); i > 0 && id > 0; i-- {
		if j[i-1].dropped == id {
			return 0
		}
		if j[i-1].id == id {
			return i
		}
	}
	return 0
}

// here are the Ids that are there, the one that was used least lately ahead.
func (j judge) here() []int {
	var out []int
	for i, d := range j {
		if j.latest(d.id) == i+1 {
			out = append(out, d.id)
		}
	}
	return out
}

// ask is what Ask answers.
func (j judge) ask(id, seq int) (int, string) {
	at := j.latest(id)
	if at == 0 {
		return api.AskGone, ""
	}
	if last := j[at-1]; last.isNote && last.seq == seq {
		return api.AskDone, last.reply
	} else if seq < 1 || last.isNote && last.seq > seq {
		return api.AskOld, ""
	}
	return api.AskNew, ""
}

// do does a call, and tells what is answered, in words.
func (j *judge) do(c call) string {
	if c.isNote {
		if is, _ := j.ask(c.id, c.seq); is != api.AskNew {
			return "noted error 1"
		}
		if len(c.reply) > api.MaxReply {
			return "noted error 2"
		}
		*j = append(*j, deed{call: c})
		return "noted <nil>"
	}
	if c.id < 1 || j.latest(c.id) > 0 {
		return "opened 0 error 1"
	}
	d := deed{call: c}
	if here := j.here(); len(here) == api.MaxSessions {
		d.dropped = here[0]
	}
	*j = append(*j, d)
	return fmt.Sprintf("opened %d <nil>", d.dropped)
}

// list is what List answers, of Ids up to one.
func (j judge) list(ids int) []api.Session {
	var out []api.Session
	for id := 1; id <= ids; id++ {
		out = append(out, j.session(id)...)
	}
	return append(out, j.session(api.MaxInt)...)
}

// session is that of an Id, if it is there.
func (j judge) session(id int) []api.Session {
	at := j.latest(id)
	if at == 0 {
		return nil
	}
	out := api.Session{Id: id, Used: at}
	if last := j[at-1]; last.isNote {
		out.Last, out.Reply = last.seq, []byte(last.reply)
	}
	return []api.Session{out}
}

// checkAll holds a table to a judge: its List, its Clock, and what it answers of a call's Id and the numbers about its own.
func checkAll(t *testing.T, s *Table, j judge, ids int, c call) {
	t.Helper()
	want := j.list(ids)
	got := s.List()
	if s.Clock() != len(j) || told(got) != told(want) {
		t.Fatal(shown(s), "not", len(j), told(want))
	}
	for i := range got {
		if !bytes.Equal(got[i].Reply, want[i].Reply) {
			t.Fatal("the reply of", got[i].Id)
		}
	}
	for _, seq := range []int{c.seq, c.seq - 1, c.seq + 1, 0, 1, 7} {
		is, reply := s.Ask(c.id, seq)
		if wantIs, wantReply := j.ask(c.id, seq); is != wantIs || string(reply) != wantReply {
			t.Fatalf("ask %d %d: %d %.20q, not %d %.20q", c.id, seq, is, reply, wantIs, wantReply)
		}
	}
}

// P16.1 to P16.4: drawn calls, against the chapter told another way.
func TestDrawnCalls(t *testing.T) {
	seen := map[string]int{}
	for seed := range 60 {
		d := dice(seed)
		ids := 4 + d.roll(12)
		s, j := New(), judge{}
		for range 150 {
			c := d.call(ids)
			got, want := c.do(s), j.do(c)
			if got != want {
				t.Fatalf("%v %d %d: %s, not %s", c.isNote, c.id, c.seq, got, want)
			}
			checkAll(t, s, j, ids, c)
			seen[got]++
		}
	}
	for _, answer := range []string{"noted <nil>", "noted error 1", "noted error 2", "opened 0 <nil>", "opened 0 error 1", "opened 1 <nil>", "opened 9 <nil>"} {
		if seen[answer] == 0 {
			t.Error("never seen:", answer)
		}
	}
}

// opening is one of a session: which Id, and how manieth of it.
type opening struct{ id, turn int }

// P16.6: of each Id and number Note succeeds at most once, as long as the Id is not opened anew; what is answered as done is what was noted then; numbers rise.
func TestOnce(t *testing.T) {
	refused := 0
	for seed := range 40 {
		d := dice(1000 + seed)
		s := New()
		turns, noted := map[int]int{}, map[opening][]call{}
		for range 400 {
			c := d.call(10)
			is, reply := s.Ask(c.id, c.seq)
			key := opening{c.id, turns[c.id]}
			done := noted[key]
			if is == api.AskDone && (len(done) == 0 || done[len(done)-1].seq != c.seq || done[len(done)-1].reply != string(reply)) {
				t.Fatal("never noted so:", c.id, c.seq, string(reply))
			}
			if !c.isNote {
				if _, err := s.Open(c.id); err == nil {
					turns[c.id]++
				}
				continue
			}
			err := s.Note(c.id, c.seq, []byte(c.reply))
			if (err == nil) != (is == api.AskNew && len(c.reply) <= api.MaxReply) {
				t.Fatal(c.id, c.seq, is, err)
			}
			if err != nil {
				refused++
				continue
			}
			if len(done) > 0 && done[len(done)-1].seq >= c.seq || turns[c.id] == 0 {
				t.Fatal("noted once more:", c.id, c.seq)
			}
			noted[key] = append(done, c)
		}
	}
	if refused < 1000 {
		t.Error(refused)
	}
}

// P16.7: a table that is restored from its List and Clock goes on as the first one does, at whatever place of its way.
func TestRestoredGoesOnAlike(t *testing.T) {
	for seed := range 30 {
		d := dice(2000 + seed)
		ids := 4 + d.roll(12)
		s := New()
		all := []*Table{s}
		for step := range 120 {
			c := d.call(ids)
			want := c.do(s)
			is, reply := s.Ask(c.id, c.seq)
			for _, other := range all[1:] {
				if got := c.do(other); got != want || shown(other) != shown(s) {
					t.Fatal(step, c.id, c.seq, got, shown(other), "not", want, shown(s))
				}
				if otherIs, otherReply := other.Ask(c.id, c.seq); otherIs != is || !bytes.Equal(otherReply, reply) {
					t.Fatal(step, c.id, c.seq, otherIs, "not", is)
				}
			}
			if step%10 == 0 {
				all = append(all, again(t, all[d.roll(len(all))]))
			}
		}
	}
}

// again is a table restored from another one.
func again(t *testing.T, s *Table) *Table {
	t.Helper()
	out, err := Restore(s.List(), s.Clock())
	if err != nil {
		t.Fatal(err, shown(s))
	}
	return out
}

// mayBeRestored tells the chapter's conditions another way.
func mayBeRestored(l []api.Session, clock int) bool {
	if clock < 0 || len(l) > api.MaxSessions {
		return false
	}
	for i, s := range l {
		if s.Id < 1 || s.Used < 1 || s.Used > clock || s.Last < 0 || len(s.Reply) > api.MaxReply || s.Last == 0 && len(s.Reply) != 0 {
			return false
		}
		for _, behind := range l[i+1:] {
			if behind.Id <= s.Id || behind.Used == s.Used {
				return false
			}
		}
	}
	return true
}

// sessions are some that may mostly be restored, and a clock.
func (d *dice) sessions() ([]api.Session, int) {
	var out []api.Session
	id := d.roll(2)
	for i := range d.roll(api.MaxSessions + 2) {
		id += 1 - d.roll(30)/29 + d.roll(3)
		s := api.Session{Id: id, Used: (i*7+3)%17 + 1 - d.roll(40)/39, Last: d.roll(5) - d.roll(40)/39}
		if s.Last != 0 || d.roll(12) == 0 {
			s.Reply = []byte("abc")[:d.roll(4)]
		}
		out = append(out, s)
	}
	return out, 10 + d.roll(14)
}

// P16.4: drawn sessions, against the conditions told another way.
func TestDrawnSessions(t *testing.T) {
	d := dice(7)
	count := [2]int{}
	for range 5000 {
		l, clock := d.sessions()
		s, err := Restore(l, clock)
		if mayBeRestored(l, clock) {
			count[0]++
			if err != nil {
				t.Fatal(told(l), clock, err)
			}
			holds(t, s, clock, l...)
		} else if count[1]++; s != nil || err != api.ErrArg {
			t.Fatal(told(l), clock, err)
		}
	}
	if count[0] < 500 || count[1] < 500 {
		t.Error(count)
	}
}

// FuzzCalls has each byte be a call: P16.1 to P16.4, P16.7.
func FuzzCalls(f *testing.F) {
	f.Add([]byte("a table, its calls and what is answered to them"))
	f.Add([]byte{0, 8, 16, 24, 32, 40, 48, 56, 64, 72, 9, 17, 25, 80, 88})
	f.Fuzz(func(t *testing.T, b []byte) {
		s, j := New(), judge{}
		for _, x := range b[:min(len(b), 200)] {
			c := call{isNote: x%8 > 0, id: int(x/8) % 14, seq: int(x % 8), reply: strings.Repeat("r", int(x%5))}
			got, want := c.do(s), j.do(c)
			if got != want {
				t.Fatal(c, got, want)
			}
			checkAll(t, s, j, 14, c)
			if x%16 == 3 {
				s = again(t, s)
			}
		}
	})
}
