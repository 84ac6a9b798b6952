package wal

import (
	"bytes"
	"slices"

	"muntin/api"
)

// held is what a log has.
type held struct {
	term, vote     int
	base, baseTerm int
	entries        []api.Entry
}

// span is where entries stand: behind the base's index, up to the last one's.
type span struct{ base, last int }

// span is where they stand now.
func (h *held) span() span { return span{h.base, h.base + len(h.entries)} }

// end tells whether an entry of an index may be the last one, and makes it so.
func (s *span) end(index int) error {
	if index <= s.base || index-1 > s.last {
		return api.ErrArg
	}
	s.last = index
	return nil
}

// end makes an entry the last one. Those that are no more are cleared, as the memory behind the last one would keep their data.
func (h *held) end(e api.Entry) {
	at := e.Index - h.base - 1
	clear(h.entries[at:])
	h.entries = append(h.entries[:at], e)
}

// fits tells which of some records can't be done one behind another: only the first is, as what is behind it hangs on it.
func (h *held) fits(rows []record) error {
	s := h.span()
	for i, r := range rows {
		if err := r.fits(&s); err != nil {
			return wrong{i, err}
		}
	}
	return nil
}

// news are the records of what is to be, where that isn't so already.
func (h *held) news(term, vote int, entries []api.Entry) []record {
	var out []record
	if term != h.term || vote != h.vote {
		out = append(out, state(term, vote))
	}
	for _, e := range entries {
		out = append(out, entry(e))
	}
	return out
}

// rows are the records of all.
func (h held) rows() []record {
	out := []record{base(h.base, h.baseTerm), state(h.term, h.vote)}
	for _, e := range h.entries {
		out = append(out, entry(e))
	}
	return out
}

// behind is what stays, once the base is another one. Its entries stand in memory of their own: those that don't stay aren't kept by them.
func (h *held) behind(index, term int) held {
	out := held{term: h.term, vote: h.vote, base: index, baseTerm: term}
	if h.at(index, term) {
		out.entries = slices.Clone(h.entries[index-h.base:])
	}
	return out
}

// at tells whether the base or an entry has this index and term.
func (h *held) at(index, term int) bool {
	s := h.span()
	switch {
	case index < s.base || index > s.last:
		return false
	case index == s.base:
		return term == h.baseTerm
	}
	return term == h.entries[index-s.base-1].Term
}

// owned is an entry with data in memory of its own.
func owned(e api.Entry) api.Entry {
	e.Data = bytes.Clone(e.Data)
	return e
}
