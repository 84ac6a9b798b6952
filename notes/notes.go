// Package notes matches operations of programs in texts, each at each place once at the most, and keeps what came of them.
package notes

import (
	"strings"

	"muntin/api"
	"muntin/class"
)

// Failed is where a match ends that does not succeed.
const Failed = -1

// note is what came of an operation at a place; one that is not made says nothing.
type note struct {
	isMade bool
	end    int32
}

// waiter is an operation, matched from a place on, that waits for what comes of one of its parts at another place.
type waiter struct {
	op, from int
	part, at int
}

// Book is what a program has come to in a text so far.
type Book struct {
	program     api.Program
	text        string
	notes       [][]note // of each place those of all operations; none, as long as nothing was matched there
	count, most int      // of the notes that are made
	waiting     []waiter // each for the one behind it
}

// Of is the book of an operation that is matched at a place; api.ErrBudget, if that makes more than so many notes. The program must be
// one of which code.Grammar tells no error, and both places must be there: whoever calls has asked.
func Of(p api.Program, op int, text string, at int, most int) (*Book, error) {
	b := &Book{program: p, text: text, notes: make([][]note, len(text)+1), most: most}
	if err := b.match(op, at); err != nil {
		return nil, err
	}
	return b, nil
}

// Count is how many notes there are.
func (b *Book) Count() int { return b.count }

// End is where an operation ended that was matched at a place: Failed, if it did not succeed, or was not matched there.
func (b *Book) End(op, at int) int {
	if end, isNoted := b.noted(op, at); isNoted {
		return end
	}
	return Failed
}

// match matches an operation at a place. Rules lead to one another as deep as a text is long, and deeper: therefore those that wait
// stand in a row, and none within a call of another one.
func (b *Book) match(op, at int) error {
begin:
	end, isNoted := b.noted(op, at)
	if !isNoted {
		if b.count == b.most {
			return api.ErrBudget
		}
		b.count++
		if len(b.program.Ops[op].Subs) > 0 {
			b.waiting = append(b.waiting, waiter{op: op, from: at, at: at})
			op = b.part(op, 0)
			goto begin
		}
		end = b.alone(op, at)
		b.note(op, at, end)
	}
	for last := len(b.waiting) - 1; last >= 0; last-- {
		w := b.waiting[last]
		if next, ok := b.next(w, end); ok {
			b.waiting[last] = next
			op, at = b.part(next.op, next.part), next.at
			goto begin
		}
		end = b.outcome(w, end)
		b.note(w.op, w.from, end)
		b.waiting = b.waiting[:last]
	}
	return nil
}

// noted is what came of an operation at a place, if it was matched there.
func (b *Book) noted(op, at int) (int, bool) {
	if b.notes[at] == nil {
		return 0, false
	}
	made := b.notes[at][op]
	return int(made.end), made.isMade
}

// note keeps what came of an operation at a place.
func (b *Book) note(op, at, end int) {
	if b.notes[at] == nil {
		b.notes[at] = make([]note, len(b.program.Ops))
	}
	b.notes[at][op] = note{isMade: true, end: int32(end)}
}

// part is the operation that is a part of another one; that of a Ref is its rule's root.
func (b *Book) part(op, part int) int {
	sub := b.program.Ops[op].Subs[part]
	if b.program.Ops[op].Kind == api.Ref {
		return b.program.Roots[sub]
	}
	return sub
}

// alone is what comes of an operation without parts.
func (b *Book) alone(place, at int) int {
	op := b.program.Ops[place]
	switch op.Kind {
	case api.Lit:
		if strings.HasPrefix(b.text[at:], op.Text) {
			return at + len(op.Text)
		}
	case api.Set:
		if at < len(b.text) && class.Has(op.Class, b.text[at]) {
			return at + 1
		}
	case api.Any:
		if at < len(b.text) {
			return at + 1
		}
	case api.Empty:
		return at
	}
	return Failed
}

// next is the part for which an operation waits behind one that came to an end, if it needs another one.
func (b *Book) next(w waiter, end int) (waiter, bool) {
	op := b.program.Ops[w.op]
	isLast := w.part == len(op.Subs)-1
	switch op.Kind {
	case api.Seq:
		return waiter{op: w.op, from: w.from, part: w.part + 1, at: end}, end != Failed && !isLast
	case api.Alt:
		return waiter{op: w.op, from: w.from, part: w.part + 1, at: w.from}, end == Failed && !isLast
	case api.Star, api.Plus:
		return waiter{op: w.op, from: w.from, at: end}, end != Failed
	}
	return waiter{}, false
}

// outcome is what comes of an operation that needs no part behind the one that came to an end.
func (b *Book) outcome(w waiter, end int) int {
	is := end != Failed
	switch b.program.Ops[w.op].Kind {
	case api.Opt:
		if !is {
			return w.from
		}
	case api.Star:
		return w.at
	case api.Plus:
		// What is repeated is never nothing: where it failed at the beginning, it failed the first time.
		if w.at > w.from {
			return w.at
		}
	case api.And, api.Not:
		if is == (b.program.Ops[w.op].Kind == api.Not) {
			return Failed
		}
		return w.from
	}
	return end
}
