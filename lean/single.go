package lean

import (
	"muntin/api"
	"muntin/class"
	"muntin/singles"
)

// quote is the one byte that is shorter in a class than in a literal.
const quote = '\''

// classOf are the bytes that an expression takes, if it is a single.
func classOf(n api.Node) (api.Class, bool) { return singles.Class(n.Kind, n.Text, n.Class) }

// single is the one of a class.
func single(c api.Class) api.Node {
	switch class.Count(c) {
	case 256:
		return api.Node{Kind: api.Any}
	case 1:
		if b := class.Runs(c)[0][0]; b != quote {
			return api.Node{Kind: api.Lit, Text: string([]byte{byte(b)})}
		}
		fallthrough
	default:
		return api.Node{Kind: api.Set, Class: c}
	}
}

// eitherSingle is one single in place of two in a choice.
func eitherSingle(ahead, next api.Node) (api.Node, bool) {
	c, isOne := classOf(ahead)
	d, isToo := classOf(next)
	if !isOne || !isToo {
		return api.Node{}, false
	}
	return single(class.Either(c, d)), true
}
