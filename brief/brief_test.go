package brief

import (
	"slices"
	"strconv"
	"strings"
	"testing"

	"muntin/api"
	"muntin/nullable"
	"muntin/scope"
	"muntin/syntax"
)

// eight are rules, each of which may come to what its name says: to nothing at all, to Zero, Some, Fail.
const eight = "n <- n z <- () s <- ('x'?)+ f <- [] zs <- 'x'? zf <- !. sf <- 'x' zsf <- 'x' / !."

// parsed is the tree of a source.
func parsed(t *testing.T, s string) api.Grammar {
	t.Helper()
	g, err := syntax.Parse(s)
	if err != nil {
		t.Fatal(s, err)
	}
	return g
}

// isBrief holds a grammar in brief to rules of the same names, which may come to the same.
func isBrief(t *testing.T, g api.Grammar) api.Grammar {
	t.Helper()
	short, err := Of(g)
	if err != nil || len(short.Rules) != len(g.Rules) {
		t.Fatal(g, short, err)
	}
	for i, rule := range short.Rules {
		if rule.Name != g.Rules[i].Name {
			t.Error(rule.Name, "not", g.Rules[i].Name)
		}
	}
	want, err := nullable.Rules(g)
	got, err2 := nullable.Rules(short)
	if err != nil || err2 != nil || !slices.Equal(got, want) {
		t.Error(g, got, want, err, err2)
	}
	return short
}

// checkParts holds an expression, and all within it, to come to the same by the grammar in brief.
func checkParts(t *testing.T, g, short api.Grammar, n api.Node) {
	t.Helper()
	if want, err := nullable.Expr(g, n); err != nil || Out(short, n) != want {
		t.Error(n, Out(short, n), want, err)
	}
	for _, sub := range n.Subs {
		checkParts(t, g, short, sub)
	}
}

// P8.1, P8.2, P9.1: what they ask of expressions may be asked of the grammar in brief.
func TestRulesComeToTheSame(t *testing.T) {
	for _, source := range []string{
		eight,
		"a <- b* 'x'? b <- [0-9]",
		"a <- a 'x' / ()",
		"a <- b c b <- 'x' / () c <- b b / a",
		"a <- !b . b <- &c c <- 'x' a d <- (a / b)+ (c* d)?",
		"e <- t ('+' t)* t <- [0-9] / '(' e ')'",
	} {
		g := parsed(t, source)
		short := isBrief(t, g)
		for _, rule := range g.Rules {
			checkParts(t, g, short, rule.Body)
		}
	}
}

// P8.1, P9.1: each two of all that rules may come to, in a row and in a choice.
func TestExpressionsBesideTheGrammar(t *testing.T) {
	g := parsed(t, eight)
	short := isBrief(t, g)
	for _, one := range g.Rules {
		for _, two := range g.Rules {
			for _, kind := range []int{api.Seq, api.Alt} {
				checkParts(t, g, short, over(kind, api.Node{Kind: api.Ref, Text: one.Name}, api.Node{Kind: api.Ref, Text: two.Name}))
			}
		}
	}
}

// P8.1, P9.1: with as many rules as may be, of names as long as may be, a grammar in brief is still one.
func TestMostRules(t *testing.T) {
	for _, text := range []string{"", "()", "'x'", "'x' / !.", "('x'?)+", "[]", "!."} {
		var g api.Grammar
		for i := range api.MaxRules {
			name := "r" + strconv.Itoa(i)
			name += strings.Repeat("n", api.MaxName-len(name))
			if text == "" {
				g.Rules = append(g.Rules, api.Rule{Name: name, Body: api.Node{Kind: api.Ref, Text: name}})
				continue
			}
			g.Rules = append(g.Rules, api.Rule{Name: name, Body: parsed(t, "a <- "+text).Rules[0].Body})
		}
		isBrief(t, g)
	}
}

// P8.1, P9.1: scope.Check's error, with nothing beside it.
func TestGrammarsThatAreRefused(t *testing.T) {
	for _, g := range []api.Grammar{
		{},
		{Rules: []api.Rule{{Name: "a"}}},
		parsed(t, "a <- . b <- x a <- ."),
		parsed(t, "a <- () / b b <- a !c"),
	} {
		want := scope.Check(g)
		short, err := Of(g)
		if want == nil || short.Rules != nil || api.Code(err) != api.Code(want) || api.At(err) != api.At(want) {
			t.Error(short, err, "not", want)
		}
	}
}
