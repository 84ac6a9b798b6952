package first

import (
	"slices"
	"strconv"
	"strings"
	"testing"
	"unsafe"

	"muntin/api"
	"muntin/class"
	"muntin/nullable"
	"muntin/printer"
	"muntin/scope"
	"muntin/sound"
	"muntin/syntax"
)

func ref(s string) api.Node                    { return api.Node{Kind: api.Ref, Text: s} }
func lit(s string) api.Node                    { return api.Node{Kind: api.Lit, Text: s} }
func bare(kind int) api.Node                   { return api.Node{Kind: kind} }
func over(kind int, subs ...api.Node) api.Node { return api.Node{Kind: kind, Subs: subs} }
func ruled(rules ...api.Rule) api.Grammar      { return api.Grammar{Rules: rules} }

// within is a node in so many others of a kind, each with it as its only part.
func within(deep, kind int, n api.Node) api.Node {
	for range deep {
		n = over(kind, n)
	}
	return n
}

// name is one of a rule, for each place another one.
func name(place int) string { return "r" + strconv.Itoa(place) }

// parsed is the tree of a source.
func parsed(t testing.TB, s string) api.Grammar {
	t.Helper()
	g, err := syntax.Parse(s)
	if err != nil {
		t.Fatal(s, err)
	}
	return g
}

// body is the tree of an expression's text.
func body(t testing.TB, s string) api.Node {
	t.Helper()
	return parsed(t, "a <- "+s).Rules[0].Body
}

// told is an answer as it is told in a text: a class, and a sign $ behind it, if the end of a text is in it.
func told(t testing.TB, s string) api.Ahead {
	t.Helper()
	c, used, err := class.Parse(s)
	if err != nil || s[used:] != "" && s[used:] != "$" {
		t.Fatal("no answer is told so:", s, err)
	}
	return api.Ahead{Class: c, End: s[used:] == "$"}
}

// shownAhead tells an answer.
func shownAhead(a api.Ahead) string {
	if a.End {
		return class.Text(a.Class) + "$"
	}
	return class.Text(a.Class)
}

// shown is an expression's text, as much of it as is worth telling.
func shown(n api.Node) string {
	text := printer.Expr(n)
	return text[:min(len(text), 200)]
}

// shownGrammar is a grammar's text, as much of it as is worth telling.
func shownGrammar(g api.Grammar) string {
	text, _ := printer.Print(g)
	return text[:min(len(text), 200)]
}

// isAhead holds an expression to that with which it may begin.
func isAhead(t *testing.T, g api.Grammar, n api.Node, want string) {
	t.Helper()
	if got, err := Expr(g, n); err != nil || got != told(t, want) {
		t.Errorf("%s: %s %v, not %s", shown(n), shownAhead(got), err, want)
	}
}

// areRules holds the rules of a grammar to that with which they may begin, told with a blank between each two.
func areRules(t *testing.T, g api.Grammar, want string) {
	t.Helper()
	var list []api.Ahead
	for _, word := range strings.Fields(want) {
		list = append(list, told(t, word))
	}
	if got, err := Rules(g); err != nil || !slices.Equal(got, list) {
		t.Errorf("%s: %v %v, not %s", shownGrammar(g), got, err, want)
	}
}

// areAheads holds the rules of a source, Refs of them, and their Bodies to that with which they may begin.
func areAheads(t *testing.T, source, want string) {
	t.Helper()
	g := parsed(t, source)
	areRules(t, g, want)
	for i, word := range strings.Fields(want) {
		isAhead(t, g, ref(g.Rules[i].Name), word)
		isAhead(t, g, g.Rules[i].Body, word)
	}
}

// P9.1
func TestExamplesOfTheChapter(t *testing.T) {
	areAheads(t, "a <- b 'x' / [0-9] b <- 'y'?", "[^] [^]$")
	areAheads(t, "a <- !'z' [a-z]", "[a-y]")
	areAheads(t, "a <- &[xy] [yz]", "[y]")
	areAheads(t, "a <- a 'x'", "[]")
	areAheads(t, "a <- !.", "[]$")
}

// P9.1: what has no parts, at each byte.
func TestExpressionsWithoutParts(t *testing.T) {
	g := parsed(t, "a <- .")
	isAhead(t, g, bare(api.Empty), "[^]$")
	isAhead(t, g, lit(""), "[^]$")
	isAhead(t, g, bare(api.Any), "[^]")
	isAhead(t, g, bare(api.Set), "[]")
	isAhead(t, g, api.Node{Kind: api.Set, Class: class.Not(api.Class{})}, "[^]")
	for b := range 256 {
		var one api.Class
		one[b/64] = 1 << (b % 64)
		want := class.Text(one)
		text := string([]byte{byte(b)})
		isAhead(t, g, lit(text), want)
		isAhead(t, g, lit(text+"x"), want)
		isAhead(t, g, lit(strings.Repeat(text, api.MaxLit)), want)
		isAhead(t, g, api.Node{Kind: api.Set, Class: one}, want)
		isAhead(t, g, api.Node{Kind: api.Set, Class: class.Not(one)}, class.Text(class.Not(one)))
	}
	areAheads(t, "a <- () b <- '' c <- 'xy' d <- [] e <- [xz] f <- [^] g <- . h <-", "[^]$ [^]$ [x] [] [xz] [^] [^] [^]$")
}

// nine are rules that begin in different ways.
const nine = "n <- n e <- () f <- [] c <- [xy] d <- . o <- 'x'? q <- !. b <- !'x' l <- 'xyz'"

// nineAheads are with what the nine may begin.
const nineAheads = "[] [^]$ [] [xy] [^] [^]$ []$ [^x]$ [x]"

// P9.1: each kind that has one part and is not Not, over parts of all kinds.
func TestExpressionsOfOnePart(t *testing.T) {
	g := parsed(t, nine)
	areAheads(t, nine, nineAheads)
	for i, want := range strings.Fields(nineAheads) {
		rule := g.Rules[i]
		for _, part := range []api.Node{ref(rule.Name), rule.Body, over(api.Seq, bare(api.Empty), ref(rule.Name))} {
			isAhead(t, g, over(api.Opt, part), "[^]$")
			isAhead(t, g, over(api.Star, part), "[^]$")
			isAhead(t, g, over(api.Plus, part), want)
			isAhead(t, g, over(api.And, part), want)
		}
	}
}

// P9.1: a Not looks at the kind of its part, not at what this means.
func TestNot(t *testing.T) {
	g := parsed(t, "a <- 'x' s <- [xy] d <- . n <- n e <- ()")
	for s, want := range map[string]string{
		"!'x'":       "[^x]$",
		"!'\\xff'":   "[^\\xff]$",
		"!'\\x00'":   "[^\\x00]$",
		"![xy]":      "[^xy]$",
		"![^xy]":     "[xy]$",
		"![]":        "[^]$",
		"![^]":       "[]$",
		"!.":         "[]$",
		"!''":        "[^]$",
		"!'xy'":      "[^]$",
		"!'xx'":      "[^]$",
		"!()":        "[^]$",
		"!a":         "[^]$",
		"!s":         "[^]$",
		"!d":         "[^]$",
		"!n":         "[^]$",
		"!e":         "[^]$",
		"!('x' 'y')": "[^]$",
		"!('x' '')":  "[^]$",
		"!('x'/'y')": "[^]$",
		"!(./.)":     "[^]$",
		"!'x'?":      "[^]$",
		"!'x'*":      "[^]$",
		"!'x'+":      "[^]$",
		"!.+":        "[^]$",
		"!(&'x')":    "[^]$",
		"!(&.)":      "[^]$",
		"!(!'x')":    "[^]$",
		"!(!.)":      "[^]$",
		"!(('x'))":   "[^x]$",
	} {
		isAhead(t, g, body(t, s), want)
	}
}

// P9.1: a row: the other parts tell its bytes, too, if the first one may not be Some; its end is that of all parts.
func TestSeq(t *testing.T) {
	for s, want := range map[string]string{
		"'x' 'y'":             "[x]",
		"'x' ()":              "[x]",
		"() 'x'":              "[x]",
		"() 'x' 'y'":          "[x]",
		"'' '' 'x' 'y'":       "[x]",
		"() ()":               "[^]$",
		"'x'? 'y'":            "[^]",
		"'x'? 'y'?":           "[^]$",
		"'x'* [y]":            "[^]",
		"'x'+ [y]":            "[x]",
		"!'x' 'x'":            "[]",
		"!'x' 'y'":            "[y]",
		"!'xy' 'x'":           "[x]",
		"!'x' ![y] [x-z]":     "[z]",
		"!'x' !'y' !'z'":      "[^xyz]$",
		"!'x' !'y' 'z'? 'x'":  "[^xy]",
		"!'x' 'z'? !'y'":      "[^x]$",
		"!. 'x'":              "[]",
		"'x'? !.":             "[^]$",
		"!. 'x'?":             "[]$",
		"!. !. ()":            "[]$",
		"!. 'x'? &.":          "[]",
		"&. .":                "[^]",
		"&. ()":               "[^]",
		"&[xy] &[yz] [y-z]":   "[y]",
		"&[xy] &[yz] ()":      "[y]",
		"&'x' &'y'":           "[]",
		"&('x' 'y') .":        "[x]",
		"&('x'?) 'y'":         "[y]",
		"&('x'?) 'y'?":        "[^]$",
		"[] 'x'":              "[]",
		"'x' []":              "[x]",
		"() []":               "[]",
		"!() 'x'":             "[x]",
		"('x' / ()) 'y'":      "[^]",
		"(!'x' / !'y') [xyz]": "[xyz]",
		"(!'x' !'y') [xyz]":   "[z]",
		"(!'x' [xy]) [z]":     "[y]",
		"() ('x' 'y')":        "[x]",
		"(() 'x') 'y'":        "[x]",
		"([] 'x') [yz]":       "[]",
		"([] / ()) [yz]":      "[yz]",
		"('' / 'x') [yz]":     "[yz]",
		"('x' / !'y') [yz]":   "[^y]",
	} {
		isAhead(t, parsed(t, "a <- ."), body(t, s), want)
	}
}

// P9.1: a row of two, over first parts that may come to all that there is: only those that may not be Some let the second one speak.
func TestSeqBehindAllParts(t *testing.T) {
	const eight = "n <- n z <- () s <- ('x'?)+ f <- [] zs <- 'x'? zf <- !'x' sf <- [a-x] zsf <- 'x' / !."
	g := parsed(t, eight)
	outs, err := nullable.Rules(g)
	if err != nil || len(outs) != 8 {
		t.Fatal(outs, err)
	}
	areRules(t, g, "[] [^]$ [^]$ [] [^]$ [^x]$ [a-x] [x]$")
	for i, want := range map[int]string{0: "[]", 1: "[w-z]", 2: "[^]", 3: "[]", 4: "[^]", 5: "[wyz]", 6: "[a-x]", 7: "[x]"} {
		rule := g.Rules[i]
		if outs[i].Some != strings.Contains(rule.Name, "s") {
			t.Fatal(rule.Name, outs[i])
		}
		second := api.Node{Kind: api.Set, Class: told(t, "[w-z]").Class}
		for _, first := range []api.Node{ref(rule.Name), rule.Body} {
			isAhead(t, g, over(api.Seq, first, second), want)
			isAhead(t, g, over(api.Seq, bare(api.Empty), first, second), want)
			isAhead(t, g, over(api.Seq, first, second, bare(api.Set)), want)
			isAhead(t, g, over(api.Seq, first, over(api.Seq, second, lit(""))), want)
		}
	}
	// What may be Some by a look at the kinds alone may be nothing but so by the table.
	isAhead(t, g, over(api.Seq, over(api.Alt, bare(api.Empty), bare(api.Any)), lit("x")), "[x]")
	isAhead(t, g, over(api.Seq, over(api.Opt, bare(api.Set)), lit("x")), "[x]")
	isAhead(t, g, over(api.Seq, over(api.Star, ref("f")), lit("x")), "[x]")
	isAhead(t, g, over(api.Seq, over(api.Opt, ref("n")), lit("x")), "[x]")
	isAhead(t, g, over(api.Seq, over(api.Opt, ref("sf")), lit("x")), "[^]")
}

// P9.1: the end of a row is that of all parts, wherever one stands that has none.
func TestEndOfSeq(t *testing.T) {
	g := parsed(t, "a <- .")
	parts := []api.Node{over(api.Opt, lit("x")), over(api.Not, bare(api.Any)), bare(api.Empty), over(api.Star, bare(api.Any)), lit("")}
	row := over(api.Seq, parts...)
	if a, err := Expr(g, row); err != nil || !a.End {
		t.Error(a, err)
	}
	for i := range parts {
		for _, part := range []api.Node{bare(api.Any), lit("x"), bare(api.Set), over(api.And, bare(api.Any)), over(api.Plus, lit("x")), ref("a")} {
			row := over(api.Seq, slices.Clone(parts)...)
			row.Subs[i] = part
			if a, err := Expr(g, row); err != nil || a.End {
				t.Error(shown(row), a, err)
			}
		}
	}
}

// P9.1: a choice: all that is in one of its parts', also behind one that never fails.
func TestAlt(t *testing.T) {
	g := parsed(t, nine)
	for s, want := range map[string]string{
		"'x' / 'y'":           "[xy]",
		"'x' / 'xy' / [z]":    "[xz]",
		"'x' / ()":            "[^]$",
		"() / 'x'":            "[^]$",
		"'x' / !.":            "[x]$",
		"!. / 'x'":            "[x]$",
		"[] / []":             "[]",
		"n / 'x'":             "[x]",
		"!. / n":              "[]$",
		"c / l / b":           "[^]$",
		"'a' / [c-e] / 'b' .": "[a-e]",
		"'a' 'b' / 'c' 'd'":   "[ac]",
		"!'x' 'y' / 'x' !.":   "[xy]",
		"('a' / 'b') / 'c'":   "[abc]",
		"q / f":               "[]$",
		". / 'x'":             "[^]",
	} {
		isAhead(t, g, body(t, s), want)
	}
}

// P9.1: rules that use themselves and each other: nothing is answered but what must be.
func TestRulesThatComeBack(t *testing.T) {
	for source, want := range map[string]string{
		"a <- a":                                 "[]",
		"a <- a / ()":                            "[^]$",
		"a <- a / 'x'":                           "[x]",
		"a <- 'x' / a":                           "[x]",
		"a <- a 'x' / 'y'":                       "[y]",
		"a <- 'x' a":                             "[x]",
		"a <- 'x' a / !.":                        "[x]$",
		"a <- 'x'? a":                            "[^]",
		"a <- a? 'x'":                            "[x]",
		"a <- 'x' / a? 'y'":                      "[^]",
		"a <- a 'x'?":                            "[]",
		"a <- !a":                                "[^]$",
		"a <- &a":                                "[]",
		"a <- a+":                                "[]",
		"a <- a*":                                "[^]$",
		"a <- !'x' a":                            "[]",
		"a <- !'x' (a / [xy])":                   "[y]",
		"a <- &a . / 'x'":                        "[x]",
		"a <- b / 'x' b <- a 'y'":                "[x] []",
		"a <- b / 'x' b <- a / 'y'":              "[xy] [xy]",
		"a <- 'x' / b b <- a 'y'":                "[x] [x]",
		"a <- b 'x' b <- c 'y' c <- a / 'z'":     "[] [] [z]",
		"a <- b 'x' b <- c 'y' c <- 'z' / a":     "[z] [z] [z]",
		"a <- b b <- c c <- a":                   "[] [] []",
		"a <- b b <- c c <- .":                   "[^] [^] [^]",
		"c <- [x] b <- c a <- b":                 "[x] [x] [x]",
		"a <- [x] / b b <- !a [xy]":              "[xy] [xy]",
		"a <- &b [xy] b <- c / [yz] c <- a":      "[y] [yz] [y]",
		"e <- t ('+' t)* t <- [0-9] / '(' e ')'": "[(0-9] [(0-9]",
		"s <- _ l* !. _ <- ' '* l <- [a-z] _":    "[^]$ [^]$ [a-z]",
	} {
		areAheads(t, source, want)
	}
}

// P9.1: an expression need not stand in the grammar.
func TestExpressionsBesideTheGrammar(t *testing.T) {
	g := parsed(t, "a <- &b [xy] b <- [yz] c <- 'q'?")
	for s, want := range map[string]string{
		"a":                 "[y]",
		"b a":               "[yz]",
		"&b a":              "[y]",
		"c a":               "[^]",
		"&c a":              "[y]",
		"a / b / 'k'":       "[kyz]",
		"!'y' b":            "[z]",
		"(&a (b / 'k'))+ c": "[y]",
	} {
		isAhead(t, g, body(t, s), want)
	}
}

// rowOf is a grammar of MaxRules rules, each of which has the next one in a body, the last one an end.
func rowOf(body func(next api.Node) api.Node, end api.Node) api.Grammar {
	var g api.Grammar
	for i := range api.MaxRules - 1 {
		g.Rules = append(g.Rules, api.Rule{Name: name(i), Body: body(ref(name(i + 1)))})
	}
	g.Rules = append(g.Rules, api.Rule{Name: name(api.MaxRules - 1), Body: end})
	return g
}

// P9.1: at MaxRules rules, whichever way their row goes.
func TestMostRules(t *testing.T) {
	asItIs := func(next api.Node) api.Node { return next }
	choice := func(next api.Node) api.Node { return over(api.Alt, next, lit("x")) }
	row := func(next api.Node) api.Node { return over(api.Seq, over(api.Not, lit("x")), next) }
	first, most := name(0), api.MaxRules-1
	for _, x := range []struct {
		g    api.Grammar
		want string
	}{
		{rowOf(asItIs, lit("x")), strings.Repeat("[x] ", most) + "[x]"},
		{rowOf(asItIs, bare(api.Empty)), strings.Repeat("[^]$ ", most) + "[^]$"},
		{rowOf(asItIs, ref(first)), strings.Repeat("[] ", most) + "[]"},
		{rowOf(choice, ref(first)), strings.Repeat("[x] ", most) + "[x]"},
		{rowOf(choice, over(api.Not, bare(api.Any))), strings.Repeat("[x]$ ", most) + "[]$"},
		{rowOf(row, bare(api.Any)), strings.Repeat("[^x] ", most) + "[^]"},
		{rowOf(row, over(api.Alt, ref(first), lit("x"), lit("y"))), strings.Repeat("[y] ", most) + "[xy]"},
	} {
		areRules(t, x.g, x.want)
		// The same rules from the back on, and as far apart as may be.
		turned := ruled(slices.Clone(x.g.Rules)...)
		slices.Reverse(turned.Rules)
		words := strings.Fields(x.want)
		slices.Reverse(words)
		areRules(t, turned, strings.Join(words, " "))
		var mixed api.Grammar
		words = nil
		for i := range api.MaxRules {
			place := i * 27 % api.MaxRules
			mixed.Rules = append(mixed.Rules, x.g.Rules[place])
			words = append(words, strings.Fields(x.want)[place])
		}
		areRules(t, mixed, strings.Join(words, " "))
	}
}

// P9.1: 64 rules, each of which has a byte of its own beside those of the next one.
func TestBytesOfAllRules(t *testing.T) {
	var g api.Grammar
	for i := range api.MaxRules {
		one, _ := class.Range(i*4, i*4+1)
		g.Rules = append(g.Rules, api.Rule{Name: name(i), Body: over(api.Alt, api.Node{Kind: api.Set, Class: one}, ref(name((i+1)%api.MaxRules)))})
	}
	list, err := Rules(g)
	if err != nil || len(list) != api.MaxRules {
		t.Fatal(list, err)
	}
	for i, a := range list {
		if a != list[0] || class.Count(a.Class) != 2*api.MaxRules || a.End {
			t.Error(i, shownAhead(a))
		}
	}
}

// P9.1, with W1: sources of full length are looked through as fast as others.
func TestLongestSources(t *testing.T) {
	for part, want := range map[string]string{"!b ": "[^]$", "b* ": "[^]$", "(b/c)*": "[^]$", "((b c)+)+": "[^]", "(((b?)c?)!b)?": "[^]$", "&(!b/c)": "[^]$", "(&b &c)": "[]", "() ": "[^]$"} {
		source := "b<-. c<-[] a<-"
		g := parsed(t, source+strings.Repeat(part, (api.MaxSource-len(source))/len(part)*2/3))
		areRules(t, g, "[^] [] "+want)
		isAhead(t, g, g.Rules[2].Body, want)
	}
	// The names of all rules are as long as may be, and those that stand ahead wait for those behind them.
	var g api.Grammar
	long := func(place int) string { return name(place) + strings.Repeat("n", api.MaxName-len(name(place))) }
	for i := range api.MaxRules - 1 {
		g.Rules = append(g.Rules, api.Rule{Name: long(i + 1), Body: over(api.Seq, bare(api.Empty), ref(long(i)))})
	}
	looks := slices.Repeat([]api.Node{over(api.Not, lit(""))}, (api.MaxSource-api.MaxRules*80)/6)
	g.Rules = append(g.Rules, api.Rule{Name: long(0), Body: over(api.Seq, append(looks, lit("x"))...)})
	areRules(t, g, strings.Repeat("[x] ", api.MaxRules))
	// As deep as may be.
	g = parsed(t, "a <- b b <- [xy]")
	isAhead(t, g, within(api.MaxNest+1, api.Plus, ref("b")), "[xy]")
	isAhead(t, g, within(api.MaxNest+1, api.And, ref("b")), "[xy]")
	isAhead(t, g, within(api.MaxNest+1, api.Not, bare(api.Any)), "[^]$")
}

// refuses holds both calls to an error, with nothing beside it.
func refuses(t *testing.T, g api.Grammar, n api.Node, code api.Errno, at int) {
	t.Helper()
	list, err := Rules(g)
	if list != nil || api.Code(err) != code || api.At(err) != at {
		t.Error(list, err, "not", code, at)
	}
	a, err := Expr(g, n)
	if a != (api.Ahead{}) || api.Code(err) != code || api.At(err) != at {
		t.Error(a, err, "not", code, at)
	}
}

// P9.1: scope.Check's error is told ahead of all else, with its place.
func TestGrammarsThatAreRefused(t *testing.T) {
	dot := bare(api.Any)
	deep := within(api.MaxNest+2, api.Star, dot)
	long := over(api.Seq, slices.Repeat([]api.Node{dot}, api.MaxSource)...)
	for _, n := range []api.Node{dot, ref("a"), ref("x"), {}, bare(13), over(api.Opt), deep, long} {
		refuses(t, api.Grammar{}, n, api.ErrTree, -1)
		refuses(t, ruled(api.Rule{Name: "a"}), n, api.ErrTree, -1)
		refuses(t, ruled(api.Rule{Name: "1", Body: dot}), n, api.ErrTree, -1)
		refuses(t, ruled(api.Rule{Name: "a", Body: deep}), n, api.ErrTree, -1)
		refuses(t, ruled(slices.Repeat([]api.Rule{{Name: "a", Body: dot}}, api.MaxRules+1)...), n, api.ErrTree, -1)
		refuses(t, ruled(api.Rule{Name: "a", Body: long}), n, api.ErrLong, -1)
		refuses(t, parsed(t, "a <- . b <- x a <- ."), n, api.ErrDouble, 14)
		refuses(t, parsed(t, "a <- b"), n, api.ErrName, 5)
		refuses(t, parsed(t, "a <- () / b b <- a !c"), n, api.ErrName, 20)
		refuses(t, ruled(api.Rule{Name: "a", Body: api.Node{Kind: api.Ref, Text: "x", At: api.MinInt}}), n, api.ErrName, api.MinInt)
	}
}

// isArg holds Expr to ErrArg, which has no place.
func isArg(t *testing.T, g api.Grammar, n api.Node) {
	t.Helper()
	if a, err := Expr(g, n); a != (api.Ahead{}) || err != api.ErrArg {
		t.Error(shown(n), a, err)
	}
}

// P9.1: what has no text is no expression.
func TestExpressionsThatAreNone(t *testing.T) {
	g := parsed(t, "a <- 'x' b <- a")
	dot := bare(api.Any)
	for _, n := range []api.Node{
		{},
		bare(-1), bare(13), bare(api.MaxInt), bare(api.MinInt),
		bare(api.Ref), ref("a b"), ref("1"), ref(strings.Repeat("a", api.MaxName+1)),
		bare(api.Seq), over(api.Seq, dot), bare(api.Alt), over(api.Alt, dot),
		over(api.Opt), over(api.Star), over(api.Plus), over(api.And), over(api.Not),
		over(api.Opt, dot, dot), over(api.Star, dot, dot), over(api.Plus, dot, dot), over(api.And, dot, dot), over(api.Not, dot, dot),
		over(api.Empty, dot), over(api.Lit, dot), over(api.Set, dot), over(api.Any, dot),
		{Kind: api.Ref, Text: "a", Subs: []api.Node{dot}},
		{Kind: api.Ref, Text: "a", Class: api.Class{1}},
		{Kind: api.Empty, Text: "x"}, {Kind: api.Any, Class: api.Class{0, 0, 0, 1}},
		lit(strings.Repeat("x", api.MaxLit+1)),
		over(api.Alt, bare(api.Empty), bare(0)), over(api.Seq, dot, over(api.Not, over(api.Seq))),
		within(api.MaxNest+2, api.Opt, dot), within(1<<16-2, api.Not, dot),
		over(api.Seq, slices.Repeat([]api.Node{dot}, api.MaxSource/2)...),
	} {
		isArg(t, g, n)
		isArg(t, g, over(api.Opt, n))
		isArg(t, g, over(api.Seq, ref("b"), n))
	}
}

// P9.1: a Ref that means no rule of the grammar, wherever it stands, also where nothing comes to it.
func TestExpressionsWithNamesOfNoRule(t *testing.T) {
	g := parsed(t, "a <- 'x' b <- []")
	for _, s := range []string{"c", "A", "aa", "c?", "c*", "c+", "&c", "!c", "a c", "c a", "a / c", "c / a", "() / c", "b c", "[] c", "!(a (b / (a c)*)+)", "a b / 'c' [c] c"} {
		isArg(t, g, body(t, s))
	}
	for _, s := range []string{"a", "b", "a b", "!(a (b / (a 'c')*)+)", "'c' [c]"} {
		if _, err := Expr(g, body(t, s)); err != nil {
			t.Error(s, err)
		}
	}
}

// P9.1: places are not looked at.
func TestPlacesAreNotLookedAt(t *testing.T) {
	g := ruled(api.Rule{Name: "a", At: api.MaxInt, Body: api.Node{Kind: api.Lit, Text: "x", At: -7}}, api.Rule{Name: "b", At: -1, Body: api.Node{Kind: api.Ref, Text: "a", At: api.MinInt}})
	areRules(t, g, "[x] [x]")
	isAhead(t, g, api.Node{Kind: api.Plus, At: api.MinInt, Subs: []api.Node{{Kind: api.Ref, Text: "b", At: api.MaxInt}}}, "[x]")
	isAhead(t, g, api.Node{Kind: api.Empty, Subs: []api.Node{}}, "[^]$")
}

// P9.2
func TestMay(t *testing.T) {
	x := told(t, "[x]")
	xEnd := told(t, "[x]$")
	for _, text := range []string{"", "x", "yx", "xyx", strings.Repeat("xy", 3000)} {
		for _, at := range []int{-1, -2, len(text) + 1, len(text) + 2, api.MinInt, api.MaxInt, -1 << 32, 1 << 32} {
			for _, a := range []api.Ahead{{}, {End: true}, x, xEnd, told(t, "[^]"), told(t, "[^]$")} {
				if May(a, text, at) {
					t.Error(shownAhead(a), len(text), at)
				}
			}
		}
		if May(x, text, len(text)) || !May(xEnd, text, len(text)) {
			t.Error("at the end of a text of", len(text))
		}
		for at := range len(text) {
			if isX := text[at] == 'x'; May(x, text, at) != isX || May(xEnd, text, at) != isX {
				t.Error(len(text), at)
			}
			if May(api.Ahead{End: true}, text, at) || !May(told(t, "[^]"), text, at) {
				t.Error(len(text), at)
			}
		}
	}
}

// P9.2: at each byte.
func TestMayOfAllBytes(t *testing.T) {
	var text []byte
	for b := range 256 {
		text = append(text, byte(b))
	}
	for b := range 256 {
		one, _ := class.Range(b, b)
		for at := range 256 {
			if May(api.Ahead{Class: one}, string(text), at) != (at == b) || May(api.Ahead{Class: class.Not(one), End: true}, string(text), at) != (at != b) {
				t.Error(b, at)
			}
		}
	}
}

// drawnNode is a node with all that is in it.
func drawnNode(n api.Node) string {
	out := strconv.Itoa(n.Kind) + strconv.Quote(n.Text) + "@" + strconv.Itoa(n.At)
	for _, word := range n.Class {
		out += "," + strconv.FormatUint(word, 16)
	}
	for _, sub := range n.Subs {
		out += "(" + drawnNode(sub) + ")"
	}
	return out
}

// P9.3: what is handed in, its spare room too, is as it was; nothing of it is kept.
func TestNothingIsChangedOrKept(t *testing.T) {
	spare := append(make([]api.Node, 0, 5), over(api.Not, lit("z")), ref("b"))
	_ = append(spare, bare(99), ref("c"))
	rules := append(make([]api.Rule, 0, 4), api.Rule{Name: "a", At: 2, Body: api.Node{Kind: api.Seq, Subs: spare}}, api.Rule{Name: "b", Body: lit("x"), At: 1})
	_ = append(rules, api.Rule{Name: "d", Body: ref("q"), At: 9})
	g := api.Grammar{Rules: rules}
	n := api.Node{Kind: api.Alt, Subs: spare}
	look := func() string {
		out := drawnNode(over(api.Seq, spare[:5]...))
		for _, rule := range rules[:4] {
			out += rule.Name + "@" + strconv.Itoa(rule.At) + drawnNode(rule.Body)
		}
		return out
	}
	before := look()
	areRules(t, g, "[x] [x]")
	isAhead(t, g, n, "[^z]$")
	list, err := Rules(g)
	if err != nil || look() != before {
		t.Error("what is handed in has changed:", look(), err)
	}
	rules[1].Body = body(t, "[yz]")
	if !slices.Equal(list, []api.Ahead{told(t, "[x]"), told(t, "[x]")}) {
		t.Error("an answer changes with what was handed in")
	}
	areRules(t, g, "[y] [yz]")
	isAhead(t, g, n, "[^]$")
	rules[1].Name = "c"
	if _, err := Rules(g); api.Code(err) != api.ErrName {
		t.Error("a name is kept:", err)
	}
}

// P9.3, with W6: no two answers share memory, spare room too.
func TestAnswersAreNewMemory(t *testing.T) {
	g := parsed(t, nine)
	one, err := Rules(g)
	two, _ := Rules(g)
	if err != nil || len(one) != 9 || len(two) != 9 {
		t.Fatal(one, two, err)
	}
	from := func(list []api.Ahead) uintptr { return uintptr(unsafe.Pointer(unsafe.SliceData(list))) }
	size := unsafe.Sizeof(api.Ahead{})
	if from(one) < from(two)+uintptr(cap(two))*size && from(two) < from(one)+uintptr(cap(one))*size {
		t.Error("answers share memory")
	}
	clear(one[:cap(one)])
	areRules(t, g, nineAheads)
	if two[7] != told(t, "[^x]$") {
		t.Error("an answer changes with another one")
	}
}

// atEnd stands for the end of a text among the bytes.
const atEnd = 256

// holds tells whether a byte, or the end, is in an answer.
func holds(a api.Ahead, at int) bool {
	if at == atEnd {
		return a.End
	}
	return class.Has(a.Class, byte(at))
}

// judge tells by the chapter's table whether expressions of a grammar may begin with one byte, or the end.
type judge struct {
	t  *testing.T
	g  api.Grammar
	at int
}

// isSome tells whether an expression may be Some, asked of the whole grammar.
func (j judge) isSome(n api.Node) bool {
	j.t.Helper()
	out, err := nullable.Expr(j.g, n)
	if err != nil {
		j.t.Fatal(shownGrammar(j.g), shown(n), err)
	}
	return out.Some
}

// isIn tells it of an expression, if the rules are in this.
func (j judge) isIn(n api.Node, rules map[string]bool) bool {
	switch n.Kind {
	case api.Empty, api.Opt, api.Star:
		return true
	case api.Lit:
		return n.Text == "" || int(n.Text[0]) == j.at
	case api.Set:
		return j.at != atEnd && n.Class[j.at/64]>>(j.at%64)&1 == 1
	case api.Any:
		return j.at != atEnd
	case api.Ref:
		return rules[n.Text]
	case api.Seq:
		rest := over(api.Seq, n.Subs[1:]...)
		if len(n.Subs) == 2 {
			rest = n.Subs[1]
		}
		if j.at == atEnd || !j.isSome(n.Subs[0]) {
			return j.isIn(n.Subs[0], rules) && j.isIn(rest, rules)
		}
		return j.isIn(n.Subs[0], rules)
	case api.Alt:
		return slices.ContainsFunc(n.Subs, func(sub api.Node) bool { return j.isIn(sub, rules) })
	case api.Plus, api.And:
		return j.isIn(n.Subs[0], rules)
	}
	part := n.Subs[0]
	switch {
	case j.at == atEnd:
		return true
	case part.Kind == api.Set || part.Kind == api.Any || part.Kind == api.Lit && len(part.Text) == 1:
		return !j.isIn(part, rules)
	}
	return true
}

// isSolution tells whether the table holds of all rules, if they are in this.
func (j judge) isSolution(rules map[string]bool) bool {
	return !slices.ContainsFunc(j.g.Rules, func(rule api.Rule) bool { return j.isIn(rule.Body, rules) != rules[rule.Name] })
}

// marks are bytes that stand in drawn grammars, some that do not, and the end.
func marks() []int { return []int{0, 'w', 'x', 'y', 'z', 128, 255, atEnd} }

// checkLeast holds Rules to the least of all answers of which the table holds: for a grammar of few rules each one is tried.
func checkLeast(t *testing.T, g api.Grammar) {
	t.Helper()
	list, err := Rules(g)
	if err != nil || len(list) != len(g.Rules) {
		t.Fatal(shownGrammar(g), list, err)
	}
	for _, at := range marks() {
		j := judge{t, g, at}
		rules := map[string]bool{}
		for i, rule := range g.Rules {
			rules[rule.Name] = holds(list[i], at)
		}
		if !j.isSolution(rules) {
			t.Error(shownGrammar(g), rules, "do not hold at", at)
		}
		for bits := range 1 << len(g.Rules) {
			for i, rule := range g.Rules {
				rules[rule.Name] = bits>>i&1 == 1
			}
			if !j.isSolution(rules) {
				continue
			}
			for i, rule := range g.Rules {
				if holds(list[i], at) && !rules[rule.Name] {
					t.Error(shownGrammar(g), "is not the least at", at, "of", rule.Name)
				}
			}
		}
	}
}

// checkFollows holds what follows: of each rule a Ref and the Body, pruning, the parts of all choices.
func checkFollows(t *testing.T, g api.Grammar) {
	t.Helper()
	list, err := Rules(g)
	if err != nil {
		t.Fatal(shownGrammar(g), err)
	}
	for i, rule := range g.Rules {
		byName, err := Expr(g, ref(rule.Name))
		byBody, err2 := Expr(g, rule.Body)
		if err != nil || err2 != nil || byName != list[i] || byBody != list[i] {
			t.Error(shownGrammar(g), rule.Name, list[i], byName, byBody, err, err2)
		}
		checkChoices(t, g, rule.Body)
	}
	pruned, err := scope.Prune(g)
	kept, err2 := Rules(pruned)
	if err != nil || err2 != nil || len(kept) != len(pruned.Rules) {
		t.Fatal(shownGrammar(g), kept, err, err2)
	}
	for i, rule := range pruned.Rules {
		if kept[i] != list[scope.Find(g, rule.Name)] {
			t.Error(shownGrammar(g), "pruned, there is another answer of", rule.Name)
		}
	}
}

// checkChoices holds each part of each Alt in an expression to begin with nothing that the Alt does not, and all of them to be it.
func checkChoices(t *testing.T, g api.Grammar, n api.Node) {
	t.Helper()
	for _, sub := range n.Subs {
		checkChoices(t, g, sub)
	}
	if n.Kind != api.Alt {
		return
	}
	all, err := Expr(g, n)
	var sum api.Ahead
	for _, sub := range n.Subs {
		one, err2 := Expr(g, sub)
		if err != nil || err2 != nil || class.Both(one.Class, class.Not(all.Class)) != (api.Class{}) || one.End && !all.End {
			t.Error(shown(n), shownAhead(all), shown(sub), shownAhead(one), err, err2)
		}
		sum = api.Ahead{Class: class.Either(sum.Class, one.Class), End: sum.End || one.End}
	}
	if sum != all {
		t.Error(shown(n), shownAhead(all), "is more than its parts:", shownAhead(sum))
	}
}

// P9.4: named cases.
func TestWhatFollows(t *testing.T) {
	for _, source := range []string{
		nine,
		"a <- b 'x' / [0-9] b <- 'y'?",
		"a <- b* c <- c / a b <- 'x' d <- !a / e e <- a b",
		"c <- a b c a <- b* b <- 'x'",
		"a <- &b (c / 'x' / b d) b <- [xy] / a c <- 'y' / () d <- d 'z'",
	} {
		checkFollows(t, parsed(t, source))
	}
	// What is pruned away may be all that is known to begin with a byte, or use what stays.
	areAheads(t, "a <- b / a b <- 'x' c <- a / 'y' d <- c", "[x] [x] [xy] [xy]")
	areAheads(t, "a <- b / a b <- 'x'", "[x] [x]")
}

// dice are numbers that look like chance, the same ones in every run.
type dice uint64

// roll is a number below n.
func (d *dice) roll(n int) int {
	*d = *d*6364136223846793005 + 1442695040888963407
	return int(*d>>33) % n
}

// node is a tree, up to so many nodes deep, of names of rules up to a number.
func (d *dice) node(deep, names int) api.Node {
	kind := 1 + d.roll(12)
	if deep == 0 {
		kind = 1 + d.roll(5)
	}
	n := api.Node{Kind: kind, At: d.roll(900)}
	switch {
	case kind == api.Lit:
		n.Text = []string{"", "x", "y", "xy", "zx"}[d.roll(5)]
	case kind == api.Set:
		n.Class = d.class()
	case kind == api.Ref:
		n.Text = name(d.roll(names))
	case kind == api.Seq || kind == api.Alt:
		for range 2 + d.roll(3) {
			n.Subs = append(n.Subs, d.node(deep-1, names))
		}
	case kind > api.Alt:
		n.Subs = []api.Node{d.node(deep-1, names)}
	}
	return n
}

// class is a set of some of the bytes x, y, z, or of all others.
func (d *dice) class() api.Class {
	var out api.Class
	for b := 'x'; b <= 'z'; b++ {
		if d.roll(2) == 1 {
			one, _ := class.Range(int(b), int(b))
			out = class.Either(out, one)
		}
	}
	if d.roll(4) == 0 {
		return class.Not(out)
	}
	return out
}

// grammar is one of so many rules.
func (d *dice) grammar(count int) api.Grammar {
	var g api.Grammar
	for i := range count {
		g.Rules = append(g.Rules, api.Rule{Name: name(i), Body: d.node(d.roll(4), count), At: d.roll(900)})
	}
	return g
}

// P9.1, P9.4: drawn grammars of few rules, against all answers that there could be.
func TestDrawnGrammarsOfFewRules(t *testing.T) {
	d := dice(9)
	seen := map[string]int{}
	for range 1500 {
		g := d.grammar(1 + d.roll(3))
		checkLeast(t, g)
		checkFollows(t, g)
		list, _ := Rules(g)
		for _, a := range list {
			seen[shownAhead(a)]++
		}
	}
	for _, s := range []string{"[]", "[]$", "[^]", "[^]$", "[x]", "[^x]", "[^x]$", "[xy]"} {
		if text := shownAhead(told(t, s)); seen[text] < 4 {
			t.Error("few rules begin with", text, seen[text])
		}
	}
}

// rounds are the least answers by the table at one byte, or the end: from nothing on, each round by the one ahead alone.
func (j judge) rounds() map[string]bool {
	known := map[string]bool{}
	for range len(j.g.Rules) {
		next := map[string]bool{}
		for _, rule := range j.g.Rules {
			next[rule.Name] = j.isIn(rule.Body, known)
		}
		known = next
	}
	return known
}

// P9.1, P9.4: drawn grammars of more rules, and drawn expressions beside them.
func TestDrawnGrammarsOfManyRules(t *testing.T) {
	d := dice(99)
	for range 40 {
		g := d.grammar(4 + d.roll(12))
		if scope.Check(g) != nil {
			continue
		}
		list, err := Rules(g)
		n := d.node(3, len(g.Rules))
		a, err2 := Expr(g, n)
		if err != nil || err2 != nil || len(list) != len(g.Rules) {
			t.Fatal(shownGrammar(g), shown(n), list, err, err2)
		}
		for _, at := range []int{'x', 'y', 'a', atEnd} {
			j := judge{t, g, at}
			want := j.rounds()
			for i, rule := range g.Rules {
				if holds(list[i], at) != want[rule.Name] {
					t.Error(shownGrammar(g), rule.Name, shownAhead(list[i]), "at", at)
				}
			}
			if holds(a, at) != j.isIn(n, want) {
				t.Error(shownGrammar(g), shown(n), shownAhead(a), "at", at)
			}
		}
		checkFollows(t, g)
	}
}

// match tells up to where an expression of a sound grammar takes a text from a place on; -1, if it fails.
func match(g api.Grammar, n api.Node, text string, at int) int {
	switch n.Kind {
	case api.Lit:
		if strings.HasPrefix(text[at:], n.Text) {
			return at + len(n.Text)
		}
		return -1
	case api.Set:
		if at < len(text) && class.Has(n.Class, text[at]) {
			return at + 1
		}
		return -1
	case api.Any:
		if at < len(text) {
			return at + 1
		}
		return -1
	case api.Ref:
		return match(g, g.Rules[scope.Find(g, n.Text)].Body, text, at)
	case api.Seq:
		for i := 0; i < len(n.Subs) && at >= 0; i++ {
			at = match(g, n.Subs[i], text, at)
		}
		return at
	case api.Alt:
		for _, sub := range n.Subs {
			if to := match(g, sub, text, at); to >= 0 {
				return to
			}
		}
		return -1
	case api.Plus:
		return match(g, over(api.Seq, n.Subs[0], over(api.Star, n.Subs[0])), text, at)
	case api.Opt, api.Star:
		for to := match(g, n.Subs[0], text, at); to >= 0; to = match(g, n.Subs[0], text, at) {
			at = to
			if n.Kind == api.Opt {
				break
			}
		}
		return at
	case api.And, api.Not:
		if (match(g, n.Subs[0], text, at) >= 0) == (n.Kind == api.And) {
			return at
		}
		return -1
	}
	return at
}

// texts are all up to a length of the bytes w, x, y, z.
func texts(length int) []string {
	out := []string{""}
	for from := 0; length > 0; length-- {
		to := len(out)
		for _, text := range out[from:to] {
			for _, b := range []string{"w", "x", "y", "z"} {
				out = append(out, text+b)
			}
		}
		from = to
	}
	return out
}

// P9.1, P9.2: where a rule of a sound grammar succeeds, there it may.
func TestSuccessesMayBe(t *testing.T) {
	d := dice(999)
	tried, ruledOut := 0, 0
	for tried < 1500 {
		g := d.grammar(1 + d.roll(4))
		if sound.Check(g) != nil {
			continue
		}
		tried++
		list, err := Rules(g)
		if err != nil || len(list) != len(g.Rules) {
			t.Fatal(shownGrammar(g), list, err)
		}
		for i, rule := range g.Rules {
			for _, text := range texts(3) {
				succeeds := match(g, rule.Body, text, 0) >= 0
				if succeeds && !May(list[i], text, 0) || succeeds && !May(list[i], "x"+text, 1) {
					t.Error(shownGrammar(g), rule.Name, shownAhead(list[i]), "succeeds at", text)
				}
				if !May(list[i], text, 0) {
					ruledOut++
				}
			}
		}
	}
	if ruledOut < 50000 {
		t.Error("few places are ruled out:", ruledOut)
	}
}

// checkSource holds all calls to the chapter at a source's tree.
func checkSource(t *testing.T, s string) {
	g, err := syntax.Parse(s)
	if err != nil || len(s) > 600 {
		return
	}
	if err := scope.Check(g); err != nil {
		refuses(t, g, bare(api.Any), api.Code(err), api.At(err))
		return
	}
	if len(g.Rules) <= 3 {
		checkLeast(t, g)
	}
	checkFollows(t, g)
}

func FuzzFirst(f *testing.F) {
	for _, s := range []string{"a <- b 'x' / [0-9] b <- 'y'?", "a <- !'z' [a-z]", "a <- &[xy] [yz]", "a <- a 'x'", "a <- !.", nine, "a <- b", "a <- . a <- .", "a<-"} {
		f.Add(s)
	}
	f.Fuzz(checkSource)
}
