package compat

import (
	"muntin/api"
	"muntin/class"
	"muntin/singles"
)

// ops are the two operations of a pair.
func (b both) ops(p pair) (older, newer api.Op) { return b.old.Ops[p.old], b.new.Ops[p.new] }

// behindRef is a pair with the root of a rule in place of the Ref: of the older one, or, if that is none, of the newer one.
func (b both) behindRef(p pair) (pair, bool) {
	older, newer := b.ops(p)
	switch {
	case older.Kind == api.Ref:
		return pair{old: b.old.Roots[older.Subs[0]], new: p.new}, true
	case newer.Kind == api.Ref:
		return pair{old: p.old, new: b.new.Roots[newer.Subs[0]]}, true
	}
	return pair{}, false
}

// isSame tells whether the two of a pair are the same, as long as those are that are told to be.
func (b both) isSame(p pair, isIn func(pair) bool) bool {
	if behind, isRef := b.behindRef(p); isRef {
		return isIn(behind)
	}
	older, newer := b.ops(p)
	return older.Kind == newer.Kind && older.Text == newer.Text && older.Class == newer.Class && areAll(older.Subs, newer.Subs, isIn)
}

// extends tells whether the newer one of a pair extends the older one, as long as those do that are told to.
func (b both) extends(p pair, same relation, isIn func(pair) bool) bool {
	behind, isRef := b.behindRef(p)
	if isRef && isIn(behind) || !isRef && same.has(p) {
		return true
	}
	older, newer := b.ops(p)
	switch {
	case newer.Kind == api.Alt && older.Kind == api.Alt:
		return isLonger(older.Subs, newer.Subs, same, isIn)
	case newer.Kind == api.Opt:
		if isRef {
			return false
		}
		fallthrough
	case newer.Kind == api.Alt:
		// Also if the older one is a Ref: that is no Alt, though its rule's root may be one that begins otherwise.
		return isIn(pair{old: p.old, new: newer.Subs[0]})
	case newer.Kind == api.Star && older.Kind == api.Plus:
		return areAll(older.Subs, newer.Subs, same.has)
	case newer.Kind == api.Seq, newer.Kind == api.And:
		return older.Kind == newer.Kind && areAll(older.Subs, newer.Subs, isIn)
	}
	return isWithin(older, newer)
}

// areAll tells whether two rows are as long as each other, and each two that stand at the same place are some that are told to be.
func areAll(older, newer []int, isIn func(pair) bool) bool {
	if len(older) != len(newer) {
		return false
	}
	for i := range older {
		if !isIn(pair{old: older[i], new: newer[i]}) {
			return false
		}
	}
	return true
}

// isLonger tells whether a choice's parts begin as those of an older one: the last of these may be extended.
func isLonger(older, newer []int, same relation, isIn func(pair) bool) bool {
	last := len(older) - 1
	return last < len(newer) && areAll(older[:last], newer[:last], same.has) && isIn(pair{old: older[last], new: newer[last]})
}

// isWithin tells whether both are singles, and the newer one takes all that the older one does.
func isWithin(older, newer api.Op) bool {
	few, isOne := singles.Class(older.Kind, older.Text, older.Class)
	many, isToo := singles.Class(newer.Kind, newer.Text, newer.Class)
	return isOne && isToo && class.Both(few, many) == few
}
