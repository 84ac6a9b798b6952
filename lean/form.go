package lean

import (
	"slices"

	"muntin/api"
	"muntin/brief"
)

// maker makes lean forms; what these may come to is asked of the grammar as it came in, in brief.
type maker struct{ asked api.Grammar }

// form is the lean form of an expression of a sound grammar.
func (m maker) form(n api.Node) api.Node {
	var parts []api.Node
	for _, sub := range n.Subs {
		parts = append(parts, m.form(sub))
	}
	switch n.Kind {
	case api.Empty:
		return none()
	case api.Lit, api.Ref:
		return api.Node{Kind: n.Kind, Text: n.Text}
	case api.Set, api.Any:
		c, _ := classOf(n)
		return single(c)
	case api.Seq:
		return row(parts)
	case api.Alt:
		return m.choice(parts)
	}
	return m.signed(n.Kind, parts[0])
}

// none is what takes nothing and never fails.
func none() api.Node { return api.Node{Kind: api.Lit} }

// nothing is what never succeeds.
func nothing() api.Node { return api.Node{Kind: api.Set} }

// over is an expression of parts.
func over(kind int, parts ...api.Node) api.Node { return api.Node{Kind: kind, Subs: parts} }

// row is the lean form of a Seq, by those of its parts.
func row(parts []api.Node) api.Node {
	var kept []api.Node
	for _, part := range parts {
		if !isAlike(part, none()) {
			kept = append(kept, spread(api.Seq, part)...)
		}
	}
	return gathered(api.Seq, joined(kept, bothLits), none())
}

// choice is the lean form of an Alt, by those of its parts.
func (m maker) choice(parts []api.Node) api.Node {
	var kept []api.Node
	for _, part := range parts {
		out := brief.Out(m.asked, part)
		// Of an Alt that is lean each part may succeed, and none but the last may be one that never fails: so it is asked as a whole.
		if succeeds(out) {
			kept = append(kept, spread(api.Alt, part)...)
		}
		if !out.Fail {
			break
		}
	}
	return gathered(api.Alt, joined(withoutTwins(kept), eitherSingle), nothing())
}

// succeeds tells whether an answer has a success.
func succeeds(out api.Out) bool { return out.Zero || out.Some }

// spread are the parts of an expression, if it is of that kind; else it alone.
func spread(kind int, n api.Node) []api.Node {
	if n.Kind == kind {
		return n.Subs
	}
	return []api.Node{n}
}

// gathered is an expression of parts, if there are two at least; else the one that there is, or what stands for no part.
func gathered(kind int, parts []api.Node, empty api.Node) api.Node {
	switch len(parts) {
	case 0:
		return empty
	case 1:
		return parts[0]
	}
	return over(kind, parts...)
}

// withoutTwins are the parts that are like none ahead.
func withoutTwins(parts []api.Node) []api.Node {
	var out []api.Node
	for _, part := range parts {
		if !slices.ContainsFunc(out, func(ahead api.Node) bool { return isAlike(ahead, part) }) {
			out = append(out, part)
		}
	}
	return out
}

// isAlike tells whether two lean forms are the same.
func isAlike(a, b api.Node) bool {
	return a.Kind == b.Kind && a.Text == b.Text && a.Class == b.Class && slices.EqualFunc(a.Subs, b.Subs, isAlike)
}

// joined are parts of which, from the front, two that can be one are one.
func joined(parts []api.Node, one func(ahead, next api.Node) (api.Node, bool)) []api.Node {
	var out []api.Node
	for _, part := range parts {
		last := len(out) - 1
		if last < 0 {
			out = append(out, part)
		} else if both, can := one(out[last], part); can {
			out[last] = both
		} else {
			out = append(out, part)
		}
	}
	return out
}

// bothLits is one Lit in place of two in a row, if it is not too long.
func bothLits(ahead, next api.Node) (api.Node, bool) {
	if ahead.Kind != api.Lit || next.Kind != api.Lit || len(ahead.Text)+len(next.Text) > api.MaxLit {
		return api.Node{}, false
	}
	return api.Node{Kind: api.Lit, Text: ahead.Text + next.Text}, true
}

// signed is the lean form of an expression that has a sign, by that of its part.
func (m maker) signed(sign int, part api.Node) api.Node {
	out := brief.Out(m.asked, part)
	turned := func(sign int) api.Node { return over(sign, part.Subs[0]) }
	switch sign {
	case api.Opt:
		if isLook(part) {
			return none()
		}
		// What is sound comes to something: a part that never fails is none that never succeeds.
		if !out.Fail {
			return part
		}
		fallthrough
	case api.Star:
		if !succeeds(out) {
			return none()
		}
		if part.Kind == api.Plus {
			return turned(api.Star)
		}
	case api.Plus:
		if !succeeds(out) {
			return nothing()
		}
		if part.Kind == api.Plus {
			return part
		}
	case api.And, api.Not:
		return look(sign, part, out, turned)
	}
	return over(sign, part)
}

// isLook tells whether an expression looks ahead, and takes nothing.
func isLook(n api.Node) bool { return n.Kind == api.And || n.Kind == api.Not }

// look is the lean form of an And or a Not, by that of its part, what that may come to, and what it is under another sign than its own.
func look(sign int, part api.Node, out api.Out, turned func(sign int) api.Node) api.Node {
	sure, never, other := none(), nothing(), api.Not
	if sign == api.Not {
		sure, never, other = never, sure, api.And
	}
	switch {
	case !out.Fail:
		return sure
	case !succeeds(out):
		return never
	case part.Kind == api.And:
		return turned(sign)
	case part.Kind == api.Not:
		return turned(other)
	}
	return over(sign, part)
}
