package nullable

import (
	"slices"
	"strconv"
	"strings"
	"testing"
	"unsafe"

	"muntin/api"
	"muntin/printer"
	"muntin/scope"
	"muntin/syntax"
)

func ref(s string) api.Node                    { return api.Node{Kind: api.Ref, Text: s} }
func lit(s string) api.Node                    { return api.Node{Kind: api.Lit, Text: s} }
func bare(kind int) api.Node                   { return api.Node{Kind: kind} }
func over(kind int, subs ...api.Node) api.Node { return api.Node{Kind: kind, Subs: subs} }
func ruled(rules ...api.Rule) api.Grammar      { return api.Grammar{Rules: rules} }

// within is a node in so many others of a kind, each with it as its only part.
func within(deep, kind int, n api.Node) api.Node {
	for range deep {
		n = over(kind, n)
	}
	return n
}

// parsed is the tree of a source.
func parsed(t testing.TB, s string) api.Grammar {
	t.Helper()
	g, err := syntax.Parse(s)
	if err != nil {
		t.Fatal(s, err)
	}
	return g
}

// outs are all answers that may be, by the first letters of what they hold; the letter n stands for nothing at all.
func outs() map[string]api.Out {
	return map[string]api.Out{
		"n":   {},
		"z":   {Zero: true},
		"s":   {Some: true},
		"f":   {Fail: true},
		"zs":  {Zero: true, Some: true},
		"zf":  {Zero: true, Fail: true},
		"sf":  {Some: true, Fail: true},
		"zsf": {Zero: true, Some: true, Fail: true},
	}
}

// eight are rules, each of which may come to what its name says.
const eight = "n <- n z <- () s <- ('x'?)+ f <- [] zs <- 'x'? zf <- !. sf <- 'x' zsf <- 'x' / !."

// shown is an expression's text, as much of it as is worth telling.
func shown(n api.Node) string {
	text := printer.Expr(n)
	return text[:min(len(text), 200)]
}

// shownGrammar is a grammar's text, as much of it as is worth telling.
func shownGrammar(g api.Grammar) string {
	text, _ := printer.Print(g)
	return text[:min(len(text), 200)]
}

// isOut holds an expression to what it may come to, told in letters.
func isOut(t *testing.T, g api.Grammar, n api.Node, want string) {
	t.Helper()
	known, right := outs()[want]
	if !right {
		t.Fatal("no answer is told so:", want)
	}
	if got, err := Expr(g, n); err != nil || got != known {
		t.Errorf("%s: %+v %v, not %s", shown(n), got, err, want)
	}
}

// areOuts holds the rules of a source to what they may come to, told in letters, with a blank between each two.
func areOuts(t *testing.T, source, want string) {
	t.Helper()
	g := parsed(t, source)
	areRules(t, g, want)
	for i, letters := range strings.Fields(want) {
		isOut(t, g, ref(g.Rules[i].Name), letters)
		isOut(t, g, g.Rules[i].Body, letters)
	}
}

// areRules holds the rules of a grammar to what they may come to.
func areRules(t *testing.T, g api.Grammar, want string) {
	t.Helper()
	var list []api.Out
	for _, letters := range strings.Fields(want) {
		list = append(list, outs()[letters])
	}
	if got, err := Rules(g); err != nil || !slices.Equal(got, list) {
		t.Errorf("%s: %+v %v, not %s", shownGrammar(g), got, err, want)
	}
}

// P7.1
func TestExamplesOfTheChapter(t *testing.T) {
	areOuts(t, "a <- b* 'x'? b <- [0-9]", "zs sf")
	areOuts(t, "a <- a 'x' / ()", "n")
	areOuts(t, "a <- !.", "zf")
	areOuts(t, "a <- &('x' / ())", "z")
	areOuts(t, "a <- []", "f")
}

// P7.1: what has no parts.
func TestExpressionsWithoutParts(t *testing.T) {
	g := parsed(t, "a <- .")
	isOut(t, g, bare(api.Empty), "z")
	isOut(t, g, bare(api.Any), "sf")
	isOut(t, g, lit(""), "z")
	for _, text := range []string{"x", "\x00", "\xff", "xy", " ", strings.Repeat("x", api.MaxLit)} {
		isOut(t, g, lit(text), "sf")
	}
	isOut(t, g, bare(api.Set), "f")
	for c := range 256 {
		var set api.Class
		set[c/64] = 1 << (c % 64)
		isOut(t, g, api.Node{Kind: api.Set, Class: set}, "sf")
	}
	// Also all bytes may fail: at the end of a text.
	isOut(t, g, api.Node{Kind: api.Set, Class: api.Class{1<<64 - 1, 1<<64 - 1, 1<<64 - 1, 1<<64 - 1}}, "sf")
	areOuts(t, "a <- () b <- '' c <- 'x' d <- [] e <- [x] f <- [^] g <- . h <-", "z z sf f sf sf sf z")
}

// P7.1: each kind that has one part, over all that this part may come to.
func TestExpressionsOfOnePart(t *testing.T) {
	g := parsed(t, eight)
	areOuts(t, eight, "n z s f zs zf sf zsf")
	for kind, row := range map[int]map[string]string{
		api.Opt:  {"n": "n", "z": "z", "s": "s", "f": "z", "zs": "zs", "zf": "z", "sf": "zs", "zsf": "zs"},
		api.Star: {"n": "n", "z": "n", "s": "s", "f": "z", "zs": "s", "zf": "z", "sf": "zs", "zsf": "zs"},
		api.Plus: {"n": "n", "z": "n", "s": "s", "f": "f", "zs": "s", "zf": "zf", "sf": "sf", "zsf": "zsf"},
		api.And:  {"n": "n", "z": "z", "s": "z", "f": "f", "zs": "z", "zf": "zf", "sf": "zf", "zsf": "zf"},
		api.Not:  {"n": "n", "z": "f", "s": "f", "f": "z", "zs": "f", "zf": "zf", "sf": "zf", "zsf": "zf"},
	} {
		for part, want := range row {
			isOut(t, g, over(kind, ref(part)), want)
		}
	}
}

// P7.1: a row of two parts, and a choice of two.
func TestSeqAndAltOfTwo(t *testing.T) {
	g := parsed(t, eight)
	for _, x := range []struct{ one, two, row, choice string }{
		{"n", "n", "n", "n"},
		{"n", "zsf", "n", "n"},
		{"z", "n", "n", "z"},
		{"z", "z", "z", "z"},
		{"z", "s", "s", "z"},
		{"z", "f", "f", "z"},
		{"z", "zsf", "zsf", "z"},
		{"s", "n", "n", "s"},
		{"s", "z", "s", "s"},
		{"s", "s", "s", "s"},
		{"s", "f", "f", "s"},
		{"s", "zs", "s", "s"},
		{"s", "zsf", "sf", "s"},
		{"f", "n", "f", "n"},
		{"f", "z", "f", "z"},
		{"f", "zsf", "f", "zsf"},
		{"zs", "n", "n", "zs"},
		{"zs", "z", "zs", "zs"},
		{"zs", "f", "f", "zs"},
		{"zs", "zf", "zsf", "zs"},
		{"zf", "n", "f", "z"},
		{"zf", "s", "sf", "zs"},
		{"zf", "f", "f", "zf"},
		{"zf", "sf", "sf", "zsf"},
		{"sf", "n", "f", "s"},
		{"sf", "z", "sf", "zs"},
		{"sf", "f", "f", "sf"},
		{"sf", "zf", "sf", "zsf"},
		{"zsf", "n", "f", "zs"},
		{"zsf", "z", "zsf", "zs"},
		{"zsf", "f", "f", "zsf"},
		{"zsf", "zsf", "zsf", "zsf"},
	} {
		isOut(t, g, over(api.Seq, ref(x.one), ref(x.two)), x.row)
		isOut(t, g, over(api.Alt, ref(x.one), ref(x.two)), x.choice)
	}
}

// judged is what an expression may come to, told by the chapter's table, word for word, if that of the rules is so.
func judged(n api.Node, rules map[string]api.Out) api.Out {
	var parts []api.Out
	for _, sub := range n.Subs {
		parts = append(parts, judged(sub, rules))
	}
	isZero := func(out api.Out) bool { return out.Zero }
	isSome := func(out api.Out) bool { return out.Some }
	isFail := func(out api.Out) bool { return out.Fail }
	goesOn := func(out api.Out) bool { return out.Zero || out.Some }
	all := func(some []api.Out, is func(api.Out) bool) bool {
		return !slices.ContainsFunc(some, func(out api.Out) bool { return !is(out) })
	}
	// one tells whether a part is so, and all ahead of it are otherwise so.
	one := func(is, ahead func(api.Out) bool) bool {
		for i, part := range parts {
			if is(part) && all(parts[:i], ahead) {
				return true
			}
		}
		return false
	}
	switch n.Kind {
	case api.Empty:
		return api.Out{Zero: true}
	case api.Lit:
		return api.Out{Zero: len(n.Text) == 0, Some: len(n.Text) > 0, Fail: len(n.Text) > 0}
	case api.Set:
		return api.Out{Some: n.Class[0]|n.Class[1]|n.Class[2]|n.Class[3] != 0, Fail: true}
	case api.Any:
		return api.Out{Some: true, Fail: true}
	case api.Ref:
		return rules[n.Text]
	case api.Seq:
		return api.Out{Zero: all(parts, isZero), Some: all(parts, goesOn) && slices.ContainsFunc(parts, isSome), Fail: one(isFail, goesOn)}
	case api.Alt:
		return api.Out{Zero: one(isZero, isFail), Some: one(isSome, isFail), Fail: all(parts, isFail)}
	case api.Opt:
		return api.Out{Zero: parts[0].Zero || parts[0].Fail, Some: parts[0].Some}
	case api.Star:
		return api.Out{Zero: parts[0].Fail, Some: parts[0].Some}
	case api.Plus:
		return api.Out{Zero: parts[0].Zero && parts[0].Fail, Some: parts[0].Some, Fail: parts[0].Fail}
	case api.And:
		return api.Out{Zero: goesOn(parts[0]), Fail: parts[0].Fail}
	}
	return api.Out{Zero: parts[0].Fail, Fail: goesOn(parts[0])}
}

// P7.1: rows and choices of two to four parts, over all that these may come to.
func TestSeqAndAltOfAll(t *testing.T) {
	g := parsed(t, eight)
	rows := [][]api.Node{nil}
	for count := 1; count <= 4; count++ {
		var longer [][]api.Node
		for _, row := range rows {
			for _, rule := range g.Rules {
				longer = append(longer, append(slices.Clone(row), ref(rule.Name)))
			}
		}
		rows = longer
		if count == 1 {
			continue
		}
		for _, row := range rows {
			for _, kind := range []int{api.Seq, api.Alt} {
				n := over(kind, row...)
				if got, err := Expr(g, n); err != nil || got != judged(n, outs()) {
					t.Fatalf("%s: %+v %v", shown(n), got, err)
				}
			}
		}
	}
}

// P7.1: Plus is its part, and then Star of it.
func TestPlusIsPartAndStar(t *testing.T) {
	g := parsed(t, eight)
	for _, rule := range g.Rules {
		plus, err := Expr(g, over(api.Plus, ref(rule.Name)))
		both, err2 := Expr(g, over(api.Seq, ref(rule.Name), over(api.Star, ref(rule.Name))))
		if err != nil || err2 != nil || plus != both {
			t.Error(rule.Name, plus, both, err, err2)
		}
	}
}

// P7.1: rules that use themselves and each other: nothing is answered but what must be.
func TestRulesThatComeBack(t *testing.T) {
	for source, want := range map[string]string{
		"a <- a":                                 "n",
		"a <- a / ()":                            "n",
		"a <- () / a":                            "z",
		"a <- 'x' / a":                           "s",
		"a <- 'x' a / ()":                        "zs",
		"a <- 'x' a":                             "f",
		"a <- 'x'? a":                            "n",
		"a <- !a":                                "n",
		"a <- &a":                                "n",
		"a <- a?":                                "n",
		"a <- a*":                                "n",
		"a <- a+":                                "n",
		"a <- (a / 'x')*":                        "n",
		"a <- ('x' / a)*":                        "s",
		"a <- ('x' a)*":                          "zs",
		"a <- ('x' a / 'y')*":                    "zs",
		"a <- '(' a ')' / 'x'":                   "sf",
		"a <- '(' a ')' / ()":                    "zs",
		"a <- b / 'x' b <- a 'y'":                "n n",
		"a <- 'x' / b b <- a 'y'":                "sf sf",
		"a <- 'x' / b b <- !a a":                 "sf sf",
		"a <- 'x' / b b <- 'y' a":                "sf sf",
		"a <- b c b <- 'x' / () c <- b b / a":    "zs zs zs",
		"a <- b b <- c c <- a":                   "n n n",
		"a <- b b <- c c <- a / 'x'":             "n n n",
		"a <- b b <- c c <- 'x' / a":             "s s s",
		"a <- b b <- c c <- .":                   "sf sf sf",
		"c <- . b <- c a <- b":                   "sf sf sf",
		"a <- [] / b b <- !a 'y'":                "n n",
		"a <- . / b b <- !a 'y'":                 "sf sf",
		"e <- t ('+' t)* t <- [0-9] / '(' e ')'": "sf sf",
	} {
		areOuts(t, source, want)
	}
}

// rowOf is a grammar of MaxRules rules, each of which has the next one in a body, the last one an end.
func rowOf(body func(next api.Node) api.Node, end api.Node) api.Grammar {
	var g api.Grammar
	for i := range api.MaxRules - 1 {
		g.Rules = append(g.Rules, api.Rule{Name: name(i), Body: body(ref(name(i + 1)))})
	}
	g.Rules = append(g.Rules, api.Rule{Name: name(api.MaxRules - 1), Body: end})
	return g
}

// name is one of a rule, for each place another one.
func name(place int) string { return "r" + strconv.Itoa(place) }

// everyOther is a text for each rule of MaxRules, by turns, so that the last rule has the second one.
func everyOther(one, two string) string {
	return strings.Repeat(one+" "+two+" ", api.MaxRules/2)
}

// P7.1: at MaxRules rules, whichever way their row goes.
func TestMostRules(t *testing.T) {
	asItIs := func(next api.Node) api.Node { return next }
	looked := func(next api.Node) api.Node { return over(api.Not, next) }
	choice := func(next api.Node) api.Node { return over(api.Alt, next, lit("x")) }
	row := func(next api.Node) api.Node { return over(api.Seq, next, lit("")) }
	for _, x := range []struct {
		g    api.Grammar
		want string
	}{
		{rowOf(asItIs, lit("x")), everyOther("sf", "sf")},
		{rowOf(asItIs, bare(api.Empty)), everyOther("z", "z")},
		{rowOf(asItIs, ref(name(0))), everyOther("n", "n")},
		{rowOf(looked, bare(api.Set)), everyOther("z", "f")},
		{rowOf(looked, bare(api.Any)), strings.Repeat("zf ", api.MaxRules-1) + "sf"},
		{rowOf(choice, bare(api.Set)), strings.Repeat("sf ", api.MaxRules-1) + "f"},
		{rowOf(choice, ref(name(0))), everyOther("n", "n")},
		{rowOf(row, over(api.Alt, lit("x"), ref(name(0)))), everyOther("s", "s")},
		{rowOf(row, over(api.Alt, lit("x"), over(api.Not, ref(name(0))))), everyOther("zsf", "zsf")},
	} {
		areRules(t, x.g, x.want)
		// The same rules from the back on, and as far apart as may be.
		turned := ruled(slices.Clone(x.g.Rules)...)
		slices.Reverse(turned.Rules)
		words := strings.Fields(x.want)
		slices.Reverse(words)
		areRules(t, turned, strings.Join(words, " "))
		var mixed api.Grammar
		words = nil
		for i := range api.MaxRules {
			place := i * 27 % api.MaxRules
			mixed.Rules = append(mixed.Rules, x.g.Rules[place])
			words = append(words, strings.Fields(x.want)[place])
		}
		areRules(t, mixed, strings.Join(words, " "))
	}
}

// refuses holds both calls to an error, with nothing beside it.
func refuses(t *testing.T, g api.Grammar, n api.Node, code api.Errno, at int) {
	t.Helper()
	list, err := Rules(g)
	if list != nil || api.Code(err) != code || api.At(err) != at {
		t.Error(list, err, "not", code, at)
	}
	out, err := Expr(g, n)
	if out != (api.Out{}) || api.Code(err) != code || api.At(err) != at {
		t.Error(out, err, "not", code, at)
	}
}

// P7.1: scope.Check's error is told ahead of all else, with its place.
func TestGrammarsThatAreRefused(t *testing.T) {
	dot := bare(api.Any)
	deep := within(26, api.Star, dot)
	long := over(api.Seq, slices.Repeat([]api.Node{dot}, api.MaxSource)...)
	for _, n := range []api.Node{dot, ref("a"), ref("x"), {}, bare(13), over(api.Opt), deep, long} {
		refuses(t, api.Grammar{}, n, api.ErrTree, -1)
		refuses(t, ruled(api.Rule{Name: "a"}), n, api.ErrTree, -1)
		refuses(t, ruled(api.Rule{Name: "1", Body: dot}), n, api.ErrTree, -1)
		refuses(t, ruled(api.Rule{Name: "a", Body: deep}), n, api.ErrTree, -1)
		refuses(t, ruled(slices.Repeat([]api.Rule{{Name: "a", Body: dot}}, api.MaxRules+1)...), n, api.ErrTree, -1)
		refuses(t, ruled(api.Rule{Name: "a", Body: long}), n, api.ErrLong, -1)
		refuses(t, parsed(t, "a <- . b <- x a <- ."), n, api.ErrDouble, 14)
		refuses(t, parsed(t, "a <- b"), n, api.ErrName, 5)
		refuses(t, parsed(t, "a <- () / b b <- a !c"), n, api.ErrName, 20)
		refuses(t, ruled(api.Rule{Name: "a", Body: api.Node{Kind: api.Ref, Text: "x", At: api.MinInt}}), n, api.ErrName, api.MinInt)
	}
}

// isArg holds Expr to ErrArg, which has no place.
func isArg(t *testing.T, g api.Grammar, n api.Node) {
	t.Helper()
	if out, err := Expr(g, n); out != (api.Out{}) || err != api.ErrArg {
		t.Error(shown(n), out, err)
	}
}

// P7.1: what has no text is no expression.
func TestExpressionsThatAreNone(t *testing.T) {
	g := parsed(t, "a <- 'x' b <- a")
	dot := bare(api.Any)
	for _, n := range []api.Node{
		{},
		bare(-1), bare(13), bare(api.MaxInt), bare(api.MinInt),
		bare(api.Ref), ref("a b"), ref("1"), ref(strings.Repeat("a", api.MaxName+1)),
		bare(api.Seq), over(api.Seq, dot), bare(api.Alt), over(api.Alt, dot),
		over(api.Opt), over(api.Star), over(api.Plus), over(api.And), over(api.Not),
		over(api.Opt, dot, dot), over(api.Star, dot, dot), over(api.Plus, dot, dot), over(api.And, dot, dot), over(api.Not, dot, dot),
		over(api.Empty, dot), over(api.Lit, dot), over(api.Set, dot), over(api.Any, dot),
		{Kind: api.Ref, Text: "a", Subs: []api.Node{dot}},
		{Kind: api.Ref, Text: "a", Class: api.Class{1}},
		{Kind: api.Empty, Text: "x"}, {Kind: api.Any, Class: api.Class{0, 0, 0, 1}},
		lit(strings.Repeat("x", api.MaxLit+1)),
		over(api.Alt, bare(api.Empty), bare(0)), over(api.Seq, dot, over(api.Not, over(api.Seq))),
		within(1<<16-2, api.Not, dot),
	} {
		isArg(t, g, n)
		isArg(t, g, over(api.Opt, n))
		isArg(t, g, over(api.Seq, ref("b"), n))
	}
}

// P7.1: a Ref that means no rule of the grammar, wherever it stands, also where nothing comes to it.
func TestExpressionsWithNamesOfNoRule(t *testing.T) {
	g := parsed(t, "a <- 'x' b <- []")
	for _, s := range []string{"c", "A", "aa", "c?", "c*", "c+", "&c", "!c", "a c", "c a", "a / c", "c / a", "() / c", "b c", "[] c", "!(a (b / (a c)*)+)", "a b / 'c' [c] c"} {
		isArg(t, g, parsed(t, "r <- "+s).Rules[0].Body)
	}
	// The names of a grammar are those of its rules, not what its literals and its own fields hold.
	for _, s := range []string{"a", "b", "a b", "!(a (b / (a 'c')*)+)", "'c' [c]"} {
		if _, err := Expr(g, parsed(t, "r <- "+s).Rules[0].Body); err != nil {
			t.Error(s, err)
		}
	}
}

// P7.1: an expression need not stand in the grammar, nor fit into it.
func TestExpressionsAtTheLimits(t *testing.T) {
	g := parsed(t, "a <- 'x' b <- a?")
	// Under a name of one letter, with an arrow and a line's end, a text of so many bytes is a source.
	most := api.MaxSource - len("a <- \n")
	row := over(api.Seq, slices.Repeat([]api.Node{ref("b")}, most/2)...)
	if text := printer.Expr(row); len(text) != most-1 {
		t.Fatal(len(text))
	}
	isOut(t, g, row, "zs")
	row.Subs[7] = lit("")
	isOut(t, g, row, "zs")
	row.Subs[7] = lit("x")
	isArg(t, g, row)
	row.Subs[7] = ref("b")
	row.Subs = append(row.Subs, ref("b"))
	isArg(t, g, row)
	deep := over(api.Seq, ref("a"), within(api.MaxNest+1, api.Opt, ref("a")))
	isOut(t, g, deep, "sf")
	isArg(t, g, over(api.Seq, ref("a"), within(api.MaxNest+2, api.Opt, ref("a"))))
	// The grammar itself is at the limits, too.
	full := rowOf(func(next api.Node) api.Node { return next }, over(api.Seq, row.Subs[:3000]...))
	full.Rules[3].Name, full.Rules[2].Body = "b", ref("b")
	isOut(t, full, over(api.Not, over(api.Seq, ref("b"), ref(name(63)))), "n")
	isOut(t, full, over(api.Seq, slices.Repeat([]api.Node{lit("x")}, 2000)...), "sf")
}

// P7.1: places are not looked at, and no names of an expression's own are asked for.
func TestPlacesAreNotLookedAt(t *testing.T) {
	g := ruled(api.Rule{Name: "a", At: api.MaxInt, Body: api.Node{Kind: api.Any, At: -7}}, api.Rule{Name: "b", At: -1, Body: api.Node{Kind: api.Ref, Text: "a", At: api.MinInt}})
	areRules(t, g, "sf sf")
	isOut(t, g, api.Node{Kind: api.Star, At: api.MinInt, Subs: []api.Node{{Kind: api.Ref, Text: "b", At: api.MaxInt}}}, "zs")
	isOut(t, g, api.Node{Kind: api.Empty, Subs: []api.Node{}}, "z")
}

// drawnNode is a node with all that is in it.
func drawnNode(n api.Node) string {
	out := strconv.Itoa(n.Kind) + strconv.Quote(n.Text) + "@" + strconv.Itoa(n.At)
	for _, word := range n.Class {
		out += "," + strconv.FormatUint(word, 16)
	}
	for _, sub := range n.Subs {
		out += "(" + drawnNode(sub) + ")"
	}
	return out
}

// P7.2: what is handed in, its spare room too, is as it was; nothing of it is kept.
func TestNothingIsChangedOrKept(t *testing.T) {
	spare := append(make([]api.Node, 0, 5), ref("b"), over(api.Star, ref("b")))
	_ = append(spare, bare(99), ref("c"))
	rules := append(make([]api.Rule, 0, 4), api.Rule{Name: "a", At: 2, Body: api.Node{Kind: api.Seq, Subs: spare}}, api.Rule{Name: "b", Body: lit("x"), At: 1})
	_ = append(rules, api.Rule{Name: "d", Body: ref("q"), At: 9})
	g := api.Grammar{Rules: rules}
	n := api.Node{Kind: api.Alt, Subs: spare}
	look := func() string {
		out := drawnNode(over(api.Seq, spare[:5]...))
		for _, rule := range rules[:4] {
			out += rule.Name + "@" + strconv.Itoa(rule.At) + drawnNode(rule.Body)
		}
		return out
	}
	before := look()
	areRules(t, g, "sf sf")
	isOut(t, g, n, "zs")
	list, err := Rules(g)
	if err != nil || look() != before {
		t.Error("what is handed in has changed:", look(), err)
	}
	rules[1].Body = bare(api.Set)
	if !slices.Equal(list, []api.Out{outs()["sf"], outs()["sf"]}) {
		t.Error("an answer changes with what was handed in")
	}
	areRules(t, g, "f f")
	isOut(t, g, n, "z")
	rules[1].Name = "c"
	if _, err := Rules(g); api.Code(err) != api.ErrName {
		t.Error("a name is kept:", err)
	}
}

// P7.2, with W6: no two answers share memory, spare room too.
func TestAnswersAreNewMemory(t *testing.T) {
	g := parsed(t, eight)
	one, err := Rules(g)
	two, _ := Rules(g)
	if err != nil || len(one) != 8 || len(two) != 8 {
		t.Fatal(one, two, err)
	}
	from := func(list []api.Out) uintptr { return uintptr(unsafe.Pointer(unsafe.SliceData(list))) }
	size := unsafe.Sizeof(api.Out{})
	if from(one) < from(two)+uintptr(cap(two))*size && from(two) < from(one)+uintptr(cap(one))*size {
		t.Error("answers share memory")
	}
	one = one[:cap(one)]
	clear(one)
	areRules(t, g, "n z s f zs zf sf zsf")
	if two[7] != outs()["zsf"] {
		t.Error("an answer changes with another one")
	}
}

// isWithin tells whether all that one answer holds is in another one.
func isWithin(one, two api.Out) bool {
	return (!one.Zero || two.Zero) && (!one.Some || two.Some) && (!one.Fail || two.Fail)
}

// isSolution tells whether the chapter's table holds of all rules of a grammar, if they may come to this.
func isSolution(g api.Grammar, rules map[string]api.Out) bool {
	for _, rule := range g.Rules {
		if judged(rule.Body, rules) != rules[rule.Name] {
			return false
		}
	}
	return true
}

// checkLeast holds Rules to the least of all answers of which the table holds: for a grammar of few rules each one is tried.
func checkLeast(t *testing.T, g api.Grammar) {
	t.Helper()
	text := shownGrammar(g)
	got, err := Rules(g)
	if err != nil || len(got) != len(g.Rules) {
		t.Fatal(text, got, err)
	}
	rules := map[string]api.Out{}
	for i, rule := range g.Rules {
		rules[rule.Name] = got[i]
	}
	if !isSolution(g, rules) {
		t.Error(text, got, "do not hold")
	}
	for bits := range 1 << (3 * len(g.Rules)) {
		for i, rule := range g.Rules {
			b := bits >> (3 * i)
			rules[rule.Name] = api.Out{Zero: b&1 != 0, Some: b&2 != 0, Fail: b&4 != 0}
		}
		if !isSolution(g, rules) {
			continue
		}
		for i, rule := range g.Rules {
			if !isWithin(got[i], rules[rule.Name]) {
				t.Error(text, got, "are not the least: there is", rules)
			}
		}
	}
}

// checkFollows holds what follows: of each rule a Ref and the Body, a rule that nothing uses, pruning.
func checkFollows(t *testing.T, g api.Grammar) {
	t.Helper()
	text := shownGrammar(g)
	list, err := Rules(g)
	if err != nil {
		t.Fatal(text, err)
	}
	for i, rule := range g.Rules {
		byName, err := Expr(g, ref(rule.Name))
		byBody, err2 := Expr(g, rule.Body)
		if err != nil || err2 != nil || byName != list[i] || byBody != list[i] {
			t.Error(text, rule.Name, list[i], byName, byBody, err, err2)
		}
	}
	if len(g.Rules) < api.MaxRules && scope.Find(g, "unused") < 0 {
		more := api.Rule{Name: "unused", Body: over(api.Alt, ref(g.Rules[0].Name), ref("unused"), bare(api.Any))}
		for _, place := range []int{0, len(g.Rules) / 2, len(g.Rules)} {
			checkOneMore(t, g, list, place, more)
		}
	}
	pruned, err := scope.Prune(g)
	kept, err2 := Rules(pruned)
	if err != nil || err2 != nil || len(kept) != len(pruned.Rules) {
		t.Fatal(text, kept, err, err2)
	}
	for i, rule := range pruned.Rules {
		if kept[i] != list[scope.Find(g, rule.Name)] {
			t.Error(text, "pruned, there is another answer of", rule.Name)
		}
	}
}

// checkOneMore holds a grammar with one more rule to the answers without it.
func checkOneMore(t *testing.T, g api.Grammar, list []api.Out, place int, more api.Rule) {
	t.Helper()
	longer := ruled(slices.Insert(slices.Clone(g.Rules), place, more)...)
	if scope.Check(longer) != nil {
		return
	}
	got, err := Rules(longer)
	if err != nil || len(got) != len(list)+1 || !slices.Equal(slices.Delete(got, place, place+1), list) {
		t.Error("with one more rule at", place, got, err, "not", list)
	}
}

// dice are numbers that look like chance, the same ones in every run.
type dice uint64

// roll is a number below n.
func (d *dice) roll(n int) int {
	*d = *d*6364136223846793005 + 1442695040888963407
	return int(*d>>33) % n
}

// node is a tree, up to so many nodes deep, of names of rules up to a number.
func (d *dice) node(deep, names int) api.Node {
	kind := 1 + d.roll(12)
	if deep == 0 {
		kind = 1 + d.roll(5)
	}
	n := api.Node{Kind: kind, At: d.roll(900)}
	switch {
	case kind == api.Lit:
		n.Text = "xy"[:d.roll(3)]
	case kind == api.Set:
		n.Class[d.roll(4)] = uint64(d.roll(2))
	case kind == api.Ref:
		n.Text = name(d.roll(names))
	case kind == api.Seq || kind == api.Alt:
		for range 2 + d.roll(2) {
			n.Subs = append(n.Subs, d.node(deep-1, names))
		}
	case kind > api.Alt:
		n.Subs = []api.Node{d.node(deep-1, names)}
	}
	return n
}

// grammar is one of so many rules.
func (d *dice) grammar(count int) api.Grammar {
	var g api.Grammar
	for i := range count {
		g.Rules = append(g.Rules, api.Rule{Name: name(i), Body: d.node(d.roll(4), count), At: d.roll(900)})
	}
	return g
}

// P7.1, P7.3: drawn grammars of few rules, against all answers that there could be.
func TestDrawnGrammarsOfFewRules(t *testing.T) {
	d := dice(7)
	seen := map[api.Out]int{}
	for range 3000 {
		g := d.grammar(1 + d.roll(3))
		checkLeast(t, g)
		checkFollows(t, g)
		list, _ := Rules(g)
		for _, out := range list {
			seen[out]++
		}
	}
	for letters, out := range outs() {
		if seen[out] < 10 {
			t.Error("few rules come to", letters, seen)
		}
	}
}

// rounds are the least answers by the table, rule by rule from nothing on, each round by the one ahead alone.
func rounds(g api.Grammar) map[string]api.Out {
	known := map[string]api.Out{}
	for range 3*len(g.Rules) + 1 {
		next := map[string]api.Out{}
		for _, rule := range g.Rules {
			next[rule.Name] = judged(rule.Body, known)
		}
		known = next
	}
	return known
}

// P7.1, P7.3: drawn grammars of more rules, and drawn expressions beside them.
func TestDrawnGrammarsOfManyRules(t *testing.T) {
	d := dice(77)
	for range 400 {
		g := d.grammar(4 + d.roll(api.MaxRules-3))
		if scope.Check(g) != nil {
			continue
		}
		want := rounds(g)
		list, err := Rules(g)
		if err != nil || len(list) != len(g.Rules) {
			t.Fatal(list, err)
		}
		for i, rule := range g.Rules {
			if list[i] != want[rule.Name] {
				t.Error(rule.Name, list[i], "not", want[rule.Name])
			}
		}
		n := d.node(3, len(g.Rules))
		if out, err := Expr(g, n); err != nil || out != judged(n, want) {
			t.Error(shown(n), out, err)
		}
		checkFollows(t, g)
	}
}

// P7.3: named cases of a rule that nothing uses, and of rules that are pruned.
func TestRulesThatNothingUses(t *testing.T) {
	areOuts(t, "a <- b* b <- 'x'", "zs sf")
	areOuts(t, "a <- b* b <- 'x' c <- a b c", "zs sf f")
	areOuts(t, "c <- a b c a <- b* b <- 'x'", "f zs sf")
	areOuts(t, "a <- b* c <- c b <- 'x'", "zs n sf")
	checkFollows(t, parsed(t, "a <- b* c <- c / a b <- 'x' d <- !a / e e <- a b"))
	checkFollows(t, rowOf(func(next api.Node) api.Node { return over(api.Not, next) }, lit("")))
}

func FuzzNullable(f *testing.F) {
	for _, s := range []string{"a <- b* 'x'? b <- [0-9]", "a <- a 'x' / ()", "a <- !.", "a <- &('x' / ())", "a <- []", eight} {
		f.Add(s)
	}
	f.Fuzz(func(t *testing.T, s string) {
		g, err := syntax.Parse(s)
		if err != nil {
			return
		}
		wrong := scope.Check(g)
		if wrong != nil {
			refuses(t, g, bare(api.Any), api.Code(wrong), api.At(wrong))
			return
		}
		if len(g.Rules) <= 3 {
			checkLeast(t, g)
		}
		checkFollows(t, g)
	})
}
