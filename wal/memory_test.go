package wal

import (
	"fmt"
	"sync"
	"testing"

	"muntin/api"
	"muntin/disk"
)

// roomy is bytes with spare room, and something in it.
func roomy(s string) []byte {
	out := append(make([]byte, 0, len(s)+4), s...)
	_ = append(out, "room"...)
	return out
}

// spoil changes all of some entries, the spare room of the list and of the data too.
func spoil(l []api.Entry) {
	for i := range l[:cap(l)] {
		p := l[:cap(l)][i].Data
		for j := range p[:cap(p)] {
			p[:cap(p)][j] = '!'
		}
		l[:cap(l)][i] = api.Entry{Index: -1, Term: -1, Kind: -1}
	}
}

// handed are entries with spare room, of the list and of the data.
func handed() []api.Entry {
	return append(make([]api.Entry, 0, 4), api.Entry{Index: 1, Term: 1, Data: roomy("a")}, api.Entry{Index: 2, Term: 1, Kind: 1, Data: roomy("bc")}, api.Entry{Index: 2, Term: 2, Data: roomy("d")})
}

// whole is all of some entries, spare room too.
func whole(l []api.Entry) string {
	out := ""
	for _, e := range l[:cap(l)] {
		out += fmt.Sprintf("%d.%d.%d:%s ", e.Index, e.Term, e.Kind, e.Data[:cap(e.Data)])
	}
	return out
}

// texts are those of entries.
func texts(l []api.Entry) string {
	out := ""
	for _, e := range l {
		out += textOf(e) + " "
	}
	return out
}

// P19.5: what is handed in is neither changed nor kept, whatever a Save tells.
func TestEntriesAreNeitherChangedNorKept(t *testing.T) {
	for _, x := range []struct {
		term, arm int
		want      error
	}{{1, -1, nil}, {-1, -1, api.ErrArg}, {1, 0, api.ErrDown}, {1, 1, api.ErrDown}} {
		w := fresh(t, "open")
		l := handed()
		before := whole(l)
		w.d.Arm(x.arm, 1)
		if err := w.l.Save(x.term, 0, l); err != x.want || whole(l) != before {
			t.Error(x, err, whole(l))
		}
		was, files := seen(w.l), filesIn(w.d)
		spoil(l)
		if seen(w.l) != was || filesIn(w.d) != files || (x.want == nil) != (was == "1 0, 0 0, 1.1.0:a 2.2.0:d") {
			t.Error(x, seen(w.l), filesIn(w.d))
		}
	}
}

// P19.5: what is answered is new memory, each time; no two data share any.
func TestEntriesAreNewMemory(t *testing.T) {
	for _, calls := range [][]string{{"open", "save 1 0 1.1.0:a 2.1.1:bc 3.2.0:d"}, {"open", "save 1 0 1.1.0:a 2.1.1:bc 3.2.0:d", "open"}, {"open", "save 1 0 1.1.0: 2.1.1:bc 3.2.0:d", "compact 1 1"}} {
		w := fresh(t, calls...)
		was := seen(w.l)
		one, two := w.l.Entries(), w.l.Entries()
		before := texts(two)
		spoil(one)
		for i := range two {
			_ = append(two[i].Data, "!!!!!!!!!!!!!!!!"...)
		}
		if texts(two) != before || seen(w.l) != was {
			t.Error(calls, texts(two), seen(w.l))
		}
		spoil(two)
		w.runs(t, "save 1 0 3.3.0:e", "compact 2 1")
		if got := w.l.Entries(); len(got) != 1 || textOf(got[0]) != "3.3.0:e" {
			t.Error(got)
		}
	}
}

// P19.5: what was answered stays as it was, whatever the log does behind it.
func TestAnswersStay(t *testing.T) {
	w := fresh(t, "open", "save 1 0 1.1.0:a 2.1.0:b 3.1.0:c")
	l := w.l.Entries()
	w.runs(t, "save 1 0 2.2.0:x 3.2.0:y", "compact 2 2", "save 1 0 3.3.0:z")
	if got := fmt.Sprint(textOf(l[0]), textOf(l[1]), textOf(l[2])); len(l) != 3 || got != "1.1.0:a2.1.0:b3.1.0:c" {
		t.Error(got)
	}
}

// W5: no list and an empty one, no data and empty ones are the same.
func TestEmptyLists(t *testing.T) {
	var seenOf [2]string
	for i, data := range [][]byte{nil, {}} {
		l, err := Open(disk.New())
		if err != nil {
			t.Fatal(err)
		}
		list := []api.Entry{{Index: 1, Data: data}}
		for _, err := range []error{l.Save(1, 1, nil), l.Save(1, 1, []api.Entry{}), l.Save(1, 1, list), l.Save(1, 1, list[:0])} {
			if err != nil {
				t.Error(err)
			}
		}
		seenOf[i] = seen(l) + filesIn(l.disk)
	}
	if seenOf[0] != seenOf[1] || seenOf[0] != "1 1, 0 0, 1.0.0:log1 b0.0 s0.0 s1.1 e1.0.0:|" {
		t.Error(seenOf)
	}
}

// W2: logs of different disks have nothing in common; what a log tells may be asked by several at one time.
func TestAtOneTime(t *testing.T) {
	shared := fresh(t, append([]string{"open"}, life[:3]...)...).l
	want := seen(shared)
	var all sync.WaitGroup
	for range 8 {
		all.Add(1)
		go func() {
			defer all.Done()
			w := fresh(t, append([]string{"open"}, life...)...)
			w.runs(t, "open", "see -> 5 5, 9 9, 10.9.0:k")
			if got := seen(shared); got != want {
				t.Error(got)
			}
		}()
	}
	all.Wait()
}
