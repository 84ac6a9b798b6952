// Package brief makes grammars short, so that what many of their expressions may come to is soon told.
package brief

import (
	"muntin/api"
	"muntin/nullable"
)

// Of is a grammar with shorter Bodies in place of its own, which may come to the same; or scope.Check's error. What an expression
// may come to hangs on no more than that of the rules, and each time it is asked the whole grammar is gone through.
func Of(g api.Grammar) (api.Grammar, error) {
	outs, err := nullable.Rules(g)
	if err != nil {
		return api.Grammar{}, err
	}
	var short api.Grammar
	for i, rule := range g.Rules {
		short.Rules = append(short.Rules, api.Rule{Name: rule.Name, Body: standIn(rule.Name, outs[i])})
	}
	return short, nil
}

// Out is what an expression of a grammar may come to, by the grammar in brief.
func Out(short api.Grammar, n api.Node) api.Out {
	// What stands in a right expression is right by itself, and its names are known: no error is told.
	out, _ := nullable.Expr(short, n)
	return out
}

// standIn is a short Body, for a rule of that name, which may come to just that.
func standIn(name string, out api.Out) api.Node {
	dot := api.Node{Kind: api.Any}
	switch out {
	case api.Out{Zero: true}:
		return api.Node{Kind: api.Empty}
	case api.Out{Some: true}:
		return over(api.Plus, over(api.Opt, dot))
	case api.Out{Fail: true}:
		return api.Node{Kind: api.Set}
	case api.Out{Zero: true, Some: true}:
		return over(api.Opt, dot)
	case api.Out{Zero: true, Fail: true}:
		return over(api.Not, dot)
	case api.Out{Some: true, Fail: true}:
		return dot
	case api.Out{Zero: true, Some: true, Fail: true}:
		return over(api.Alt, dot, over(api.Not, dot))
	}
	// Of a rule that is itself alone nothing can be told.
	return api.Node{Kind: api.Ref, Text: name}
}

// over is an expression of parts.
func over(kind int, parts ...api.Node) api.Node { return api.Node{Kind: kind, Subs: parts} }
