// Package fields puts numbers and blobs behind one another, and takes them from the front again, for layers that write what they have in
// bytes. A wrong one is told at the end: so what puts or takes a layer's bytes reads as these stand, with no question between.
package fields

import (
	"muntin/api"
	"muntin/wire"
)

// Writer is what was put so far, and the first error of that.
type Writer struct {
	out []byte
	err error
}

// Num puts a number.
func (w *Writer) Num(n int) { w.put(wire.Num(n)) }

// Blob puts a blob.
func (w *Writer) Blob(p []byte) { w.put(wire.Blob(p)) }

// Flag puts the number 1 or 0.
func (w *Writer) Flag(is bool) {
	if is {
		w.Num(1)
		return
	}
	w.Num(0)
}

// put puts what layer 1 tells.
func (w *Writer) put(b []byte, err error) {
	if w.err == nil {
		w.err = err
	}
	w.out = append(w.out, b...)
}

// Bytes are all that was put, or the first error.
func (w *Writer) Bytes() ([]byte, error) {
	if w.err != nil {
		return nil, w.err
	}
	return w.out, nil
}

// Reader is what was not taken yet, and the first error. Behind that nothing is left, and all that is taken is zero.
type Reader struct {
	rest []byte
	err  error
}

// Read is a reader of bytes.
func Read(b []byte) *Reader { return &Reader{rest: b} }

// Num takes a number.
func (r *Reader) Num() int {
	n, used, err := wire.TakeNum(r.rest)
	r.take(used, err)
	return n
}

// Blob takes a blob.
func (r *Reader) Blob() []byte {
	p, used, err := wire.TakeBlob(r.rest)
	r.take(used, err)
	return p
}

// Flag takes the number 1 or 0.
func (r *Reader) Flag() bool {
	n := r.Num()
	if n > 1 {
		r.Fail(api.ErrForm)
	}
	return n == 1
}

// Row takes a count, at most so many, and then one thing after another.
func Row[T any](r *Reader, most int, one func() T) []T {
	many := r.Num()
	if many > most {
		r.Fail(api.ErrLong)
	}
	var out []T
	for i := 0; i < many && r.err == nil; i++ {
		out = append(out, one())
	}
	return out
}

// take leaves what is behind so many bytes, if layer 1 tells no error of them.
func (r *Reader) take(used int, err error) {
	if err != nil {
		r.Fail(err)
		return
	}
	r.rest = r.rest[used:]
}

// Fail is for what is taken well, but may not stand there.
func (r *Reader) Fail(err error) {
	if r.err == nil {
		r.err = err
	}
	r.rest = nil
}

// End is the first error, or that something is left.
func (r *Reader) End() error {
	if r.err == nil && len(r.rest) > 0 {
		return api.ErrForm
	}
	return r.err
}
