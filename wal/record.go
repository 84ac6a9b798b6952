package wal

import (
	"errors"
	"strconv"

	"muntin/api"
	"muntin/fields"
	"muntin/wire"
)

// The kinds of records.
const (
	stateKind = 1
	entryKind = 2
	baseKind  = 3
)

// record is what a frame holds. What it says of itself stands in its functions: so what goes through records asks none for its kind, but
// where a base must stand.
type record struct {
	kind int
	put  func(w *fields.Writer) // puts what is behind its kind
	fits func(s *span) error    // tells whether it can be done where entries stand so, and where they stand then
	do   func(h *held)
}

// state is the record of a term and a vote.
func state(term, vote int) record {
	return record{
		kind: stateKind,
		put:  func(w *fields.Writer) { w.Num(term); w.Num(vote) },
		fits: func(s *span) error { return nil },
		do:   func(h *held) { h.term, h.vote = term, vote },
	}
}

// entry is the record of an entry.
func entry(e api.Entry) record {
	return record{
		kind: entryKind,
		put:  func(w *fields.Writer) { w.Num(e.Index); w.Num(e.Term); w.Num(e.Kind); w.Blob(e.Data) },
		fits: func(s *span) error { return s.end(e.Index) },
		do:   func(h *held) { h.end(owned(e)) },
	}
}

// base is the record of a base.
func base(index, term int) record {
	return record{
		kind: baseKind,
		put:  func(w *fields.Writer) { w.Num(index); w.Num(term) },
		fits: func(s *span) error { *s = span{index, index}; return nil },
		do:   func(h *held) { h.base, h.baseTerm, h.entries = index, term, nil },
	}
}

// frame is a record's.
func (r record) frame() ([]byte, error) {
	var w fields.Writer
	w.Num(r.kind)
	r.put(&w)
	b, err := w.Bytes()
	if err != nil {
		return nil, err
	}
	return wire.Frame(b)
}

// recordOf is the record that a frame holds.
func recordOf(p []byte) (record, error) {
	var out record
	r := fields.Read(p)
	switch r.Num() {
	case stateKind:
		out = state(r.Num(), r.Num())
	case entryKind:
		out = entry(api.Entry{Index: r.Num(), Term: r.Num(), Kind: r.Num(), Data: r.Blob()})
	case baseKind:
		out = base(r.Num(), r.Num())
	default:
		r.Fail(api.ErrForm)
	}
	return out, r.End()
}

// wrong is why one of several records can't be.
type wrong struct {
	at    int
	cause error
}

// Error tells it.
func (w wrong) Error() string { return "record " + strconv.Itoa(w.at) + ": " + w.cause.Error() }

// Unwrap is why.
func (w wrong) Unwrap() error { return w.cause }

// frames are those of records, one behind another, and all that can't be.
func frames(rows []record) ([]byte, error) {
	var out []byte
	var all []error
	for i, r := range rows {
		b, err := r.frame()
		if err != nil {
			all = append(all, wrong{i, err})
		}
		out = append(out, b...)
	}
	return out, errors.Join(all...)
}
