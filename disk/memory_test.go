package disk

import (
	"fmt"
	"slices"
	"sync"
	"testing"

	"muntin/api"
)

// roomy is bytes with spare room, and something in it.
func roomy(s string) []byte {
	out := append(make([]byte, 0, len(s)+4), s...)
	_ = append(out, "room"...)
	return out
}

// whole is bytes, their spare room too.
func whole(b []byte) string { return string(b[:cap(b)]) }

// spoil changes all of some bytes, their spare room too.
func spoil(b []byte) {
	for i := range b[:cap(b)] {
		b[:cap(b)][i] = '!'
	}
}

// spoilAll changes all of some files, the spare room of the list and of the bytes too.
func spoilAll(l []api.File) {
	for i := range l[:cap(l)] {
		spoil(l[:cap(l)][i].Bytes)
		l[:cap(l)][i] = api.File{Name: "spoiled", Sure: -1}
	}
}

// P18.5: what is handed in to Append and Put, its spare room too, is as it was, and none of it is kept.
func TestBytesAreNeitherChangedNorKept(t *testing.T) {
	for part := range 4 {
		d := New()
		p := roomy("123")
		for i, err := range []error{d.Append("a", p), d.Put("b", p), d.Append("b", p), d.Append("a", p[:2]), d.Put("c", p[:1]), d.Append("c", []byte("456"))} {
			if err != nil || whole(p) != "123room" {
				t.Error(i, err, whole(p))
			}
		}
		d.Arm(0, part)
		if err := d.Append("c", p); err != api.ErrDown || whole(p) != "123room" {
			t.Error(err, whole(p))
		}
		if err := d.Put("c", p); err != api.ErrDown || whole(p) != "123room" {
			t.Error(err, whole(p))
		}
		spoil(p)
		runs(t, d, fmt.Sprintf(`see -> off a:"12312"/0 b:"123123"/3 c:%q/1`, "1456123"[:4+part]), "start 9 9 9", "append a 4", "append b 4", "append c 4")
		if whole(p) != "!!!!!!!" {
			t.Error(whole(p))
		}
	}
}

// P18.5: a Put that is cut off keeps none of what is handed in.
func TestCutOffPutKeepsNothing(t *testing.T) {
	d := disk(t, "arm 0 1")
	p := roomy("123")
	if err := d.Put("a", p); err != api.ErrDown || whole(p) != "123room" {
		t.Error(err, whole(p))
	}
	spoil(p)
	runs(t, d, `see -> off a:"123"/3`, "start", "append a 4", `see -> on a:"1234"/3`)
	if whole(p) != "!!!!!!!" {
		t.Error(whole(p))
	}
}

// P18.5: the numbers that Start is handed, their spare room too, are as they were, and none of them are kept.
func TestKeepIsNeitherChangedNorKept(t *testing.T) {
	all := []int{-7, 2, 9, 5, 6}
	d := three(t)
	d.Start(all[:2])
	if !slices.Equal(all, []int{-7, 2, 9, 5, 6}) {
		t.Error(all)
	}
	runs(t, d, `see -> on a:"aaa"/3 b:"bbbb"/4 c:""/0`)
	clear(all)
	runs(t, d, "append b b", "append c c", `see -> on a:"aaa"/3 b:"bbbbb"/4 c:"c"/0`)
}

// P18.5: what is answered is new memory, its spare room too.
func TestAnswersAreNewMemory(t *testing.T) {
	want := `see -> on a:"aaa"/3 b:"bbbbb"/2 c:"ccc"/0`
	d := three(t)
	runs(t, d, "append a x", "append b x", "append c x", "cut a 3", "cut b 5", "cut c 3", want)
	for _, name := range []string{"a", "b", "c"} {
		first, _ := d.Read(name)
		second, _ := d.Read(name)
		was := string(second)
		spoil(first)
		if string(second) != was {
			t.Error(name, string(second))
		}
		runs(t, d, want, "append "+name+" y", fmt.Sprint("cut ", name, " ", len(was)), want)
		_ = append(second, "and some more"...)
		runs(t, d, want)
	}
	first, second := d.Files(), d.Files()
	spoilAll(first)
	runs(t, d, want)
	if listed(second) != ` a:"aaa"/3 b:"bbbbb"/2 c:"ccc"/0` {
		t.Error(listed(second))
	}
}

// P18.5: what was answered stays as it is, whatever is done to the files.
func TestAnswersStay(t *testing.T) {
	d := three(t)
	read, _ := d.Read("b")
	files := d.Files()
	runs(t, d, "cut b 1", "append b 12345678", "put a zz", "sync c", "remove c", "append c qqqqqq", "arm 0 2", "append a 99 -> ErrDown", "start", "append b xyz")
	if string(read) != "bbbbb" || listed(files) != ` a:"aaa"/3 b:"bbbbb"/2 c:"ccc"/0` {
		t.Error(string(read), listed(files))
	}
}

// P18.5: no two files of an answer share memory: what is put behind the bytes of one is in no other one.
func TestFilesOfAnAnswerAreApart(t *testing.T) {
	for i := range 3 {
		d := three(t)
		l := d.Files()
		spoil(l[i].Bytes)
		_ = append(l[i].Bytes, "and some more behind it"...)
		for k, want := range []string{"aaa", "bbbbb", "ccc"} {
			if k != i && string(l[k].Bytes) != want {
				t.Errorf("%d %d %s", i, k, l[k].Bytes)
			}
		}
		runs(t, d, `see -> on a:"aaa"/3 b:"bbbbb"/2 c:"ccc"/0`)
	}
}

// P18.1, P18.3, with W5: lists that are empty are as good as none.
func TestEmptyLists(t *testing.T) {
	for _, p := range [][]byte{nil, {}} {
		for _, keep := range [][]int{nil, {}} {
			d := New()
			for i, err := range []error{d.Append("a", p), d.Put("b", p), d.Append("c", []byte("x")), d.Append("c", p), d.Sync("a")} {
				if err != nil {
					t.Error(i, err)
				}
			}
			runs(t, d, `see -> on a:""/0 b:""/0 c:"x"/0`, "read a -> ", "read b -> ")
			d.Arm(0, 5)
			if err := d.Append("c", p); err != api.ErrDown {
				t.Error(err)
			}
			d.Start(keep)
			runs(t, d, `see -> on a:""/0 b:""/0 c:""/0`)
			if err := d.Put("c", p); err != nil {
				t.Error(err)
			}
		}
	}
}

// P18.1, P18.4, with W2: disks know nothing of each other, at one time; nor do calls that change nothing.
func TestCallsAtOneTime(t *testing.T) {
	same := three(t)
	var group sync.WaitGroup
	for range 8 {
		group.Go(func() {
			for range 20 {
				own := three(t)
				runs(t, own, "arm 1 1", "append c d", "put a q -> ErrDown", "start 0 0 3", `see -> on a:"q"/1 b:"bb"/2 c:"ccc"/3`)
				runs(t, same, "read b -> bbbbb", "read d -> ErrFile", `see -> on a:"aaa"/3 b:"bbbbb"/2 c:"ccc"/0`)
			}
		})
	}
	group.Wait()
}
