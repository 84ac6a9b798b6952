package lean

import (
	"muntin/api"
	"muntin/class"
)

// quote is the one byte that is shorter in a class than in a literal.
const quote = '\''

// isSingle tells whether an expression takes one byte, if it succeeds, by a look at that byte alone.
func isSingle(n api.Node) bool {
	return n.Kind == api.Set || n.Kind == api.Any || n.Kind == api.Lit && len(n.Text) == 1
}

// classOf are the bytes that a single takes.
func classOf(n api.Node) api.Class {
	switch n.Kind {
	case api.Lit:
		// A byte is never out of a class's range: no error is told.
		c, _ := class.Range(int(n.Text[0]), int(n.Text[0]))
		return c
	case api.Any:
		return class.Not(api.Class{})
	}
	return n.Class
}

// single is the one of a class.
func single(c api.Class) api.Node {
	switch class.Count(c) {
	case 256:
		return api.Node{Kind: api.Any}
	case 1:
		if b := class.Runs(c)[0][0]; b != quote {
			return api.Node{Kind: api.Lit, Text: string([]byte{byte(b)})}
		}
		fallthrough
	default:
		return api.Node{Kind: api.Set, Class: c}
	}
}

// eitherSingle is one single in place of two in a choice.
func eitherSingle(ahead, next api.Node) (api.Node, bool) {
	if !isSingle(ahead) || !isSingle(next) {
		return api.Node{}, false
	}
	return single(class.Either(classOf(ahead), classOf(next))), true
}
