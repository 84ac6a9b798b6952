package spans

import (
	"muntin/api"
	"muntin/notes"
)

// part is a rule that a success is made of, and where it began.
type part struct{ rule, from int }

// teller tells the spans of a success by its notes.
type teller struct {
	program api.Program
	book    *notes.Book
	told    []api.Span
	open    stack[[]part] // of each span that is open the parts of its rule that are not told yet
	found   int           // how many spans there are at least: those that are told, and the parts of those that are open
}

// tell tells all spans of a success of the rule 0; api.ErrBudget, if there are too many.
func (t *teller) tell() ([]api.Span, error) {
	t.found = 1
	t.begin(part{})
	for t.open.size() > 0 && t.found <= api.MaxSpans {
		rest := *t.open.top()
		if len(rest) == 0 {
			t.open.cut(t.open.size() - 1)
			continue
		}
		*t.open.top() = rest[1:]
		t.begin(rest[0])
	}
	if t.found > api.MaxSpans {
		return nil, api.ErrBudget
	}
	return t.told, nil
}

// begin tells a rule's span, and opens it. Spans may double with each rule: the parts are counted as soon as they are found, and no
// more of them are looked for than may be.
func (t *teller) begin(p part) {
	root := t.program.Roots[p.rule]
	t.told = append(t.told, api.Span{Rule: p.rule, From: p.from, To: t.book.End(root, p.from), Deep: t.open.size()})
	var within []part
	t.visit(root, p.from, func(rule, from int) bool {
		within = append(within, part{rule: rule, from: from})
		t.found++
		return t.found <= api.MaxSpans
	})
	t.open.push(within)
}

// visit shows the Refs that a success of an operation at a place is made of, but for those within their rules: the rule of each, and
// where it began. It is left with false, once that is answered.
func (t *teller) visit(place, at int, show func(rule, from int) bool) bool {
	op := t.program.Ops[place]
	switch op.Kind {
	case api.Ref:
		return show(op.Subs[0], at)
	case api.Seq:
		for _, sub := range op.Subs {
			if !t.visit(sub, at, show) {
				return false
			}
			at = t.book.End(sub, at)
		}
	case api.Alt, api.Opt:
		for _, sub := range op.Subs {
			if t.book.End(sub, at) != notes.Failed {
				return t.visit(sub, at, show)
			}
		}
	case api.Star, api.Plus:
		sub := op.Subs[0]
		for end := t.book.End(sub, at); end != notes.Failed; end = t.book.End(sub, at) {
			if !t.visit(sub, at, show) {
				return false
			}
			at = end
		}
	}
	return true
}
