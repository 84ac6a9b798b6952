package code

import (
	"muntin/api"
	"muntin/fields"
)

// classSize is how many bytes a class has, and wordSize one of its words.
const (
	classSize = 32
	wordSize  = 8
)

// Bytes is a program in bytes.
func Bytes(p api.Program) ([]byte, error) {
	if _, err := Grammar(p); err != nil {
		return nil, err
	}
	var w fields.Writer
	w.Num(len(p.Names))
	for i, name := range p.Names {
		w.Blob([]byte(name))
		w.Num(p.Roots[i])
	}
	w.Num(len(p.Ops))
	for _, op := range p.Ops {
		putOp(&w, op)
	}
	return w.Bytes()
}

// Load is the way back.
func Load(b []byte) (api.Program, error) {
	p, err := read(b)
	if err != nil {
		return api.Program{}, refusal(err)
	}
	if _, err := Grammar(p); err != nil {
		return api.Program{}, err
	}
	return p, nil
}

// putOp puts an operation.
func putOp(w *fields.Writer, op api.Op) {
	w.Num(op.Kind)
	w.Blob([]byte(op.Text))
	if op.Kind == api.Set {
		w.Blob(classBytes(op.Class))
	}
	w.Num(len(op.Subs))
	for _, sub := range op.Subs {
		w.Num(sub)
	}
}

// classBytes is a class in bytes: those of its words, the lowest ones first.
func classBytes(c api.Class) []byte {
	out := make([]byte, classSize)
	for i := range out {
		out[i] = byte(c[i/wordSize] >> (i % wordSize * 8))
	}
	return out
}

// reader takes from the front of bytes what a program is made of.
type reader struct{ *fields.Reader }

// named is a rule as it stands in bytes.
type named struct {
	name string
	root int
}

// read is what stands in bytes, which are all of it; whether it is a program is not asked.
func read(b []byte) (api.Program, error) {
	r := reader{fields.Read(b)}
	rules := fields.Row(r.Reader, api.MaxRules, r.rule)
	p := api.Program{Ops: fields.Row(r.Reader, api.MaxOps, r.op)}
	for _, rule := range rules {
		p.Names = append(p.Names, rule.name)
		p.Roots = append(p.Roots, rule.root)
	}
	return p, r.End()
}

// rule takes a rule's name and its root.
func (r reader) rule() named { return named{name: string(r.Blob()), root: r.Num()} }

// op takes an operation.
func (r reader) op() api.Op {
	op := api.Op{Kind: r.Num(), Text: string(r.Blob())}
	if op.Kind == api.Set {
		op.Class = r.class()
	}
	// A part has a byte of its text at least: no source has more.
	op.Subs = fields.Row(r.Reader, api.MaxSource, r.Num)
	return op
}

// class takes a class.
func (r reader) class() api.Class {
	p := r.Blob()
	if len(p) != classSize {
		r.Fail(api.ErrForm)
		return api.Class{}
	}
	var out api.Class
	for i, b := range p {
		out[i/wordSize] |= uint64(b) << (i % wordSize * 8)
	}
	return out
}
