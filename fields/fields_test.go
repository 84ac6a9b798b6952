package fields

import (
	"bytes"
	"slices"
	"strings"
	"testing"

	"muntin/api"
)

// What is put stands as layer 1 writes it, one behind another, and is taken just so.
func TestThereAndBack(t *testing.T) {
	var w Writer
	w.Num(256)
	w.Blob([]byte("ab"))
	w.Flag(true)
	w.Flag(false)
	w.Num(2)
	w.Num(5)
	w.Num(0)
	w.Blob(nil)
	b, err := w.Bytes()
	if want := []byte{2, 1, 0, 1, 2, 'a', 'b', 1, 1, 0, 1, 2, 1, 5, 0, 0}; err != nil || !bytes.Equal(b, want) {
		t.Fatal(b, err)
	}
	r := Read(b)
	if n, p, yes, no := r.Num(), r.Blob(), r.Flag(), r.Flag(); n != 256 || string(p) != "ab" || !yes || no {
		t.Error(n, p, yes, no)
	}
	if l, p := Row(r, 2, r.Num), r.Blob(); !slices.Equal(l, []int{5, 0}) || len(p) != 0 || r.End() != nil {
		t.Error(l, p, r.End())
	}
}

// The first error is told of what was put, and nothing else; of nothing there are no bytes.
func TestWritersFirstError(t *testing.T) {
	long := make([]byte, api.MaxBlob+1)
	for i, x := range []struct {
		put  func(w *Writer)
		want error
	}{
		{func(w *Writer) { w.Num(1); w.Num(-1); w.Blob(long); w.Num(1) }, api.ErrArg},
		{func(w *Writer) { w.Blob(long); w.Num(-1); w.Flag(true) }, api.ErrLong},
		{func(w *Writer) { w.Blob(long[1:]); w.Blob(long) }, api.ErrLong},
		{func(w *Writer) {}, nil},
	} {
		var w Writer
		x.put(&w)
		if b, err := w.Bytes(); len(b) != 0 || err != x.want {
			t.Error(i, len(b), err)
		}
	}
}

// taken is what is taken one behind another: a number, a blob, a flag, at most three numbers; and what is told at the end.
func taken(b []byte) (int, []byte, bool, []int, error) {
	r := Read(b)
	n, p, is, l := r.Num(), r.Blob(), r.Flag(), Row(r, 3, r.Num)
	return n, p, is, l, r.End()
}

// The first error of what is taken is told at the end; what is taken behind it is zero.
func TestReadersFirstError(t *testing.T) {
	for i, x := range []struct {
		b    []byte
		want error
		n    int
		p    string
		is   bool
		l    int
	}{
		{[]byte{1, 7, 1, 1, 'a', 1, 1, 1, 3, 0, 0, 0}, nil, 7, "a", true, 3},
		{[]byte{1, 7, 1, 1, 'a', 1, 1, 1, 3, 0, 0, 0, 0}, api.ErrForm, 7, "a", true, 3},
		{[]byte{1, 7, 1, 1, 'a', 1, 1, 1, 4, 0, 0, 0, 0}, api.ErrLong, 7, "a", true, 0},
		{[]byte{1, 7, 1, 1, 'a', 1, 2, 1, 1, 0}, api.ErrForm, 7, "a", false, 0},
		{[]byte{1, 7, 1, 2, 'a'}, api.ErrEnd, 7, "", false, 0},
		{[]byte{1, 7, 3, 1, 0, 1, 1, 1}, api.ErrLong, 7, "", false, 0},
		{[]byte{1, 7, 1, 1, 'a', 0, 1, 2, 0}, api.ErrEnd, 7, "a", false, 2},
		{[]byte{9, 1, 1}, api.ErrForm, 0, "", false, 0},
		{[]byte{1, 0, 1, 1}, api.ErrForm, 0, "", false, 0},
		{nil, api.ErrEnd, 0, "", false, 0},
	} {
		n, p, is, l, err := taken(x.b)
		if err != x.want || n != x.n || string(p) != x.p || is != x.is || len(l) != x.l {
			t.Error(i, n, p, is, l, err)
		}
	}
}

// What may not stand there ends the taking; the first one of two is told.
func TestFail(t *testing.T) {
	r := Read([]byte{1, 7, 1, 8})
	n := r.Num()
	r.Fail(api.ErrTree)
	r.Fail(api.ErrArg)
	if m := r.Num(); n != 7 || m != 0 || r.End() != api.ErrTree {
		t.Error(n, m, r.End())
	}
}

// A row ends where one of its things can't be taken, however great its count is.
func TestRowEndsAtAnError(t *testing.T) {
	asked := 0
	r := Read(append([]byte{8, 127}, strings.Repeat("\xff", 7)+"\x00\x00\x09"...))
	l := Row(r, api.MaxInt, func() int { asked++; return r.Num() })
	if asked != 3 || len(l) != 3 || r.End() != api.ErrForm {
		t.Error(asked, l, r.End())
	}
}

// What is taken is new memory; what is read is as it was.
func TestMemory(t *testing.T) {
	b := []byte{1, 2, 'a', 'b', 1, 1, 'c'}
	r := Read(b)
	first, second := r.Blob(), r.Blob()
	for _, p := range [][]byte{first, second} {
		for i := range p[:cap(p)] {
			p[:cap(p)][i] = '!'
		}
	}
	if string(b) != "\x01\x02ab\x01\x01c" || r.End() != nil {
		t.Error(b, r.End())
	}
	var w Writer
	w.Blob(b)
	b[2] = '!'
	if out, err := w.Bytes(); err != nil || string(out[2:]) != "\x01\x02ab\x01\x01c" {
		t.Error(out, err)
	}
}
