package code

import (
	"muntin/api"
	"muntin/wire"
)

// classSize is how many bytes a class has, and wordSize one of its words.
const (
	classSize = 32
	wordSize  = 8
)

// Bytes is a program in bytes.
func Bytes(p api.Program) ([]byte, error) {
	if _, err := Grammar(p); err != nil {
		return nil, err
	}
	var w writer
	w.num(len(p.Names))
	for i, name := range p.Names {
		w.blob([]byte(name))
		w.num(p.Roots[i])
	}
	w.num(len(p.Ops))
	for _, op := range p.Ops {
		w.op(op)
	}
	return w.out, nil
}

// Load is the way back.
func Load(b []byte) (api.Program, error) {
	p, err := read(b)
	if err != nil {
		return api.Program{}, refusal(err)
	}
	if _, err := Grammar(p); err != nil {
		return api.Program{}, err
	}
	return p, nil
}

// writer puts what a program is made of one behind another. Its numbers are counts, kinds and places, its blobs are names, literals
// and classes: no error is told of them.
type writer struct{ out []byte }

// num puts a number.
func (w *writer) num(n int) {
	b, _ := wire.Num(n)
	w.out = append(w.out, b...)
}

// blob puts a blob.
func (w *writer) blob(p []byte) {
	b, _ := wire.Blob(p)
	w.out = append(w.out, b...)
}

// op puts an operation.
func (w *writer) op(op api.Op) {
	w.num(op.Kind)
	w.blob([]byte(op.Text))
	if op.Kind == api.Set {
		w.blob(classBytes(op.Class))
	}
	w.num(len(op.Subs))
	for _, sub := range op.Subs {
		w.num(sub)
	}
}

// classBytes is a class in bytes: those of its words, the lowest ones first.
func classBytes(c api.Class) []byte {
	out := make([]byte, classSize)
	for i := range out {
		out[i] = byte(c[i/wordSize] >> (i % wordSize * 8))
	}
	return out
}

// reader takes from the front of bytes what a writer puts.
type reader struct{ rest []byte }

// named is a rule as it stands in bytes.
type named struct {
	name string
	root int
}

// read is what stands in bytes, which are all of it; whether it is a program is not asked.
func read(b []byte) (api.Program, error) {
	r := &reader{rest: b}
	rules, err := row(r.num, r.rule, api.MaxRules)
	if err != nil {
		return api.Program{}, err
	}
	ops, err := row(r.num, r.op, api.MaxOps)
	if err != nil {
		return api.Program{}, err
	}
	if len(r.rest) > 0 {
		return api.Program{}, api.ErrForm
	}
	p := api.Program{Ops: ops}
	for _, rule := range rules {
		p.Names = append(p.Names, rule.name)
		p.Roots = append(p.Roots, rule.root)
	}
	return p, nil
}

// row takes a count, at most so many, and then one thing after another.
func row[T any](count func() (int, error), one func() (T, error), most int) ([]T, error) {
	many, err := count()
	if err != nil {
		return nil, err
	}
	if many > most {
		return nil, api.ErrLong
	}
	var out []T
	for range many {
		next, err := one()
		if err != nil {
			return nil, err
		}
		out = append(out, next)
	}
	return out, nil
}

// num takes a number.
func (r *reader) num() (int, error) {
	n, used, err := wire.TakeNum(r.rest)
	r.rest = r.rest[used:]
	return n, err
}

// blob takes a blob.
func (r *reader) blob() ([]byte, error) {
	p, used, err := wire.TakeBlob(r.rest)
	r.rest = r.rest[used:]
	return p, err
}

// rule takes a rule's name and its root.
func (r *reader) rule() (named, error) {
	name, err := r.blob()
	if err != nil {
		return named{}, err
	}
	root, err := r.num()
	return named{name: string(name), root: root}, err
}

// op takes an operation.
func (r *reader) op() (api.Op, error) {
	kind, err := r.num()
	if err != nil {
		return api.Op{}, err
	}
	text, err := r.blob()
	if err != nil {
		return api.Op{}, err
	}
	op := api.Op{Kind: kind, Text: string(text)}
	if kind == api.Set {
		op.Class, err = r.class()
		if err != nil {
			return api.Op{}, err
		}
	}
	// A part has a byte of its text at least: no source has more.
	op.Subs, err = row(r.num, r.num, api.MaxSource)
	return op, err
}

// class takes a class.
func (r *reader) class() (api.Class, error) {
	p, err := r.blob()
	if err != nil {
		return api.Class{}, err
	}
	if len(p) != classSize {
		return api.Class{}, api.ErrForm
	}
	var out api.Class
	for i, b := range p {
		out[i/wordSize] |= uint64(b) << (i % wordSize * 8)
	}
	return out, nil
}
