// Package singles tells what takes one byte by a look at that byte alone: of expressions and of operations, which say so the same way.
package singles

import (
	"muntin/api"
	"muntin/class"
)

// Class are the bytes that what has that kind, text and class takes, if it is a single.
func Class(kind int, text string, c api.Class) (api.Class, bool) {
	switch {
	case kind == api.Lit && len(text) == 1:
		// A byte is never out of a class's range: no error is told.
		one, _ := class.Range(int(text[0]), int(text[0]))
		return one, true
	case kind == api.Set:
		return c, true
	case kind == api.Any:
		return class.Not(api.Class{}), true
	}
	return api.Class{}, false
}
