package lean

import (
	"slices"
	"strconv"
	"strings"
	"testing"

	"muntin/api"
	"muntin/class"
	"muntin/printer"
	"muntin/sound"
	"muntin/syntax"
)

func ref(s string) api.Node               { return api.Node{Kind: api.Ref, Text: s} }
func lit(s string) api.Node               { return api.Node{Kind: api.Lit, Text: s} }
func bare(kind int) api.Node              { return api.Node{Kind: kind} }
func ruled(rules ...api.Rule) api.Grammar { return api.Grammar{Rules: rules} }

// name is one of a rule, for each place another one.
func name(place int) string { return "r" + strconv.Itoa(place) }

// within is a node in so many others of a kind, each with it as its only part.
func within(deep, kind int, n api.Node) api.Node {
	for range deep {
		n = over(kind, n)
	}
	return n
}

// parsed is the tree of a source.
func parsed(t testing.TB, s string) api.Grammar {
	t.Helper()
	g, err := syntax.Parse(s)
	if err != nil {
		t.Fatal(s, err)
	}
	return g
}

// printed is the text of a tree.
func printed(t testing.TB, g api.Grammar) string {
	t.Helper()
	text, err := printer.Print(g)
	if err != nil {
		t.Fatal(g, err)
	}
	return text
}

// shown is a grammar's text, as much of it as is worth telling.
func shown(g api.Grammar) string {
	text, _ := printer.Print(g)
	return text[:min(len(text), 300)]
}

// leaned is a lean grammar.
func leaned(t testing.TB, g api.Grammar) api.Grammar {
	t.Helper()
	out, err := Grammar(g)
	if err != nil {
		t.Fatal(shown(g), err)
	}
	return out
}

// becomes holds Grammar to a source's lean one: that of the tree, which a text tells, without places. (Another kind, or another text
// of a node, is another text.)
func becomes(t *testing.T, source, want string) {
	t.Helper()
	g := leaned(t, parsed(t, source))
	if got := printed(t, g); got != want {
		t.Errorf("%s: %q, not %q", source, got, want)
	}
	if at := places(g); at != 0 {
		t.Error(source, "has places that sum up to", at)
	}
}

// places are all of a grammar, none of them below 0, summed up.
func places(g api.Grammar) int {
	sum := 0
	for _, rule := range g.Rules {
		sum += rule.At + nodePlaces(rule.Body)
	}
	return sum
}

func nodePlaces(n api.Node) int {
	sum := n.At
	for _, sub := range n.Subs {
		sum += nodePlaces(sub)
	}
	return sum
}

// leans holds Grammar to the lean form of each Body of a table, which may name rules: f, which never succeeds; s, which never fails
// (a success with nothing, or something), and m, n, which may do all.
func leans(t *testing.T, table [][2]string) {
	t.Helper()
	const rest = " f <- 'x' f s <- 'x'* m <- 'm' / !. n <- 'n' / !."
	for _, x := range table {
		g := leaned(t, parsed(t, "a <- "+x[0]+rest))
		if got := printer.Expr(g.Rules[0].Body); got != x[1] {
			t.Errorf("%s: %s, not %s", x[0], got, x[1])
		}
	}
}

// P14.1
func TestExamplesOfTheChapter(t *testing.T) {
	becomes(t, "a <- 'x' ('y' () 'z') / [a] / 'b' / 'c'* / .", "a <- 'xyz' / [ab] / 'c'*\n")
	becomes(t, "s <- !(!a) &(!a) (a?)? (a+)? a <- 'x'", "s <- &a !a a? a*\na <- 'x'\n")
	becomes(t, "a <- ('x' / () / 'y')? 'w' / 'z'", "a <- ('x' / '') 'w' / 'z'\n")
	becomes(t, "a <- [']", "a <- [']\n")
}

// P14.1: what has no parts.
func TestLeaves(t *testing.T) {
	leans(t, [][2]string{
		{"()", "''"}, {"''", "''"}, {"'x'", "'x'"}, {"'xy'", "'xy'"}, {"'\\''", "'\\''"}, {"'\\x00'", "'\\x00'"}, {"m", "m"}, {"f", "f"}, {"s", "s"},
		{"[]", "[]"}, {"[x]", "'x'"}, {"[xy]", "[xy]"}, {"[a-z]", "[a-z]"}, {"[']", "[']"}, {"['x]", "['x]"}, {"[&-(]", "[&-(]"}, {"[\\n]", "'\\n'"}, {"[\\[]", "'['"}, {"[\\\\]", "'\\\\'"},
		{".", "."}, {"[\\x00-\\xff]", "."}, {"[^]", "."}, {"[^x]", "[\\x00-wy-\\xff]"}, {"[^\\x00-wy-\\xff]", "'x'"}, {"[\\x01-\\xff]", "[\\x01-\\xff]"}, {"[\\x00-\\xfe]", "[\\x00-\\xfe]"},
	})
}

// isForm holds Grammar to the lean form of an expression, alone in a grammar.
func isForm(t *testing.T, n, want api.Node) {
	t.Helper()
	got := leaned(t, ruled(api.Rule{Name: "a", Body: n})).Rules[0].Body
	if text := printer.Expr(want); text == "" || printer.Expr(got) != text {
		t.Error(printer.Expr(n), got, "not", text)
	}
}

// P14.1: the single of a class of one byte, and of all but one.
func TestEachByte(t *testing.T) {
	set := func(c api.Class) api.Node { return api.Node{Kind: api.Set, Class: c} }
	for b := range 256 {
		one, _ := class.Range(b, b)
		byLit, bySet, rest := lit(string([]byte{byte(b)})), set(one), set(class.Not(one))
		isForm(t, byLit, byLit)
		isForm(t, rest, rest)
		if b == 39 {
			isForm(t, bySet, bySet)
		} else {
			isForm(t, bySet, byLit)
		}
		for _, single := range []api.Node{byLit, bySet} {
			isForm(t, over(api.Alt, single, rest), bare(api.Any))
			isForm(t, over(api.Alt, rest, single), bare(api.Any))
			isForm(t, over(api.Alt, rest, rest, set(api.Class{})), rest)
		}
	}
}

// P14.1: rows.
func TestRows(t *testing.T) {
	leans(t, [][2]string{
		{"() ()", "''"}, {"'' ()", "''"}, {"() m", "m"}, {"m ()", "m"}, {"'' 'x' ''", "'x'"}, {"() (m / n) ''", "m / n"}, {"() (m n)", "m n"},
		{"m (n m)", "m n m"}, {"(m n) m", "m n m"}, {"m (n (m (n m)))", "m n m n m"}, {"m (() (n ()))", "m n"}, {"m (n / m) n", "m (n / m) n"}, {"m m", "m m"}, {"m s f", "m s f"},
		{"'x' 'y'", "'xy'"}, {"'x' 'y' 'z'", "'xyz'"}, {"'x' m 'y'", "'x' m 'y'"}, {"'x' () 'y'", "'xy'"}, {"'x' ('' ()) 'y'", "'xy'"}, {"'x' ('y' m 'z') 'w'", "'xy' m 'zw'"}, {"'x' 'y' m 'z' 'w'", "'xy' m 'zw'"},
		{"[x] 'y' [z]", "'xyz'"}, {"'x' ['] 'y'", "'x' ['] 'y'"}, {"'x' '\\'' 'y'", "'x\\'y'"}, {"'x' . 'y'", "'x' . 'y'"}, {"'x' [xy] 'y'", "'x' [xy] 'y'"}, {"'x' ([y] / [])", "'xy'"}, {"m [] n", "m [] n"}, {"[] 'x'", "[] 'x'"}, {"() []", "[]"},
		{"'x' &('' m) 'y'", "'x' &m 'y'"}, {"'x' (&m)? 'y'", "'xy'"}, {"'x' ![] 'y'", "'xy'"}, {"'x' !() 'y'", "'x' [] 'y'"}, {"'x' f* 'y'", "'xy'"}, {"'x' (s 'y'?)? 'z'", "'x' s 'y'? 'z'"}, {"'x' ('y' 'z')? 'w'", "'x' 'yz'? 'w'"},
	})
}

// P14.1: literals in a row are one up to MaxLit bytes, from the front on.
func TestLongLiterals(t *testing.T) {
	for _, x := range []struct {
		parts []api.Node
		want  []int
	}{
		{longs(254, 1), []int{255}},
		{longs(255, 1), []int{255, 1}},
		{longs(1, 255), []int{1, 255}},
		{longs(254, 1, 1), []int{255, 1}},
		{longs(200, 100, 100), []int{200, 200}},
		{longs(100, 100, 100, 55), []int{200, 155}},
		{longs(128, 128, 127, 1), []int{128, 255, 1}},
		{longs(255, 0, 255), []int{255, 255}},
		{[]api.Node{over(api.Seq, longs(200, 100)...), longs(100)[0]}, []int{200, 200}},
		{[]api.Node{longs(100)[0], over(api.Seq, longs(200, 50)...)}, []int{100, 250}},
		{[]api.Node{longs(100)[0], over(api.Seq, longs(100, 100, 100)...), longs(50, 6)[0]}, []int{100, 200, 150}},
	} {
		g := leaned(t, ruled(api.Rule{Name: "a", Body: over(api.Seq, x.parts...)}))
		if got := sizes(g.Rules[0].Body); !slices.Equal(got, x.want) {
			t.Error(got, "not", x.want)
		}
	}
}

// longs are literals of so many bytes.
func longs(counts ...int) []api.Node {
	var out []api.Node
	for _, n := range counts {
		out = append(out, lit(strings.Repeat("x", n)))
	}
	return out
}

// sizes are how many bytes the parts of a row have, or an expression alone.
func sizes(n api.Node) []int {
	var out []int
	for _, sub := range n.Subs {
		out = append(out, len(sub.Text))
	}
	if out == nil {
		return []int{len(n.Text)}
	}
	return out
}

// P14.1: choices.
func TestChoices(t *testing.T) {
	leans(t, [][2]string{
		{"m / n", "m / n"}, {"m / (n / f)", "m / n"}, {"m / (n / 'xy')", "m / n / 'xy'"}, {"(m / n) / 'xy'", "m / n / 'xy'"}, {"(m / (n / 'xy')) / 'zw'", "m / n / 'xy' / 'zw'"}, {"m / () (n / 'xy')", "m / n / 'xy'"}, {"m / (n / 'xy'*)?", "m / n / 'xy'*"},
		{"() / m", "''"}, {"m / () / n", "m / ''"}, {"m / s / n", "m / s"}, {"m / n?", "m / n?"}, {"m / n? / 'xy'", "m / n?"}, {"m / 'xy'* / n", "m / 'xy'*"}, {"m / ![] / n", "m / ''"}, {"m / !n / n", "m / !n / n"}, {"s / ()", "s"}, {"m / ('xy' / s) / n", "m / 'xy' / s"}, {"(m / ('xy' / s) / n) / 'zw'", "m / 'xy' / s"},
		{"f / m", "m"}, {"m / f", "m"}, {"f / m / [] / n / f", "m / n"}, {"[] / f", "[]"}, {"[] / (f / !()) / f 'x'", "[]"}, {"m 'x' f / n", "n"}, {"f / ()", "''"}, {"f / [] / s", "s"}, {"[] / []", "[]"}, {"m / ([] / f)", "m"},
		{"m / m", "m"}, {"m / n / m", "m / n"}, {"m n / m / m n / n", "m n / m / n"}, {"m 'x' 'y' / n / m ('x' 'y')", "m 'xy' / n"}, {"'w'* m / ('w'+)? m", "'w'* m"}, {"m / (n / m) / n", "m / n"}, {"'xy' / 'xz' / 'xy'", "'xy' / 'xz'"}, {"!m / !n / !m", "!m / !n"}, {"m / &m", "m / &m"}, {"m n / n m", "m n / n m"}, {"'x' m / 'x' n / 'x' m", "'x' m / 'x' n"}, {"[xy] m / [xz] m / [xy] m", "[xy] m / [xz] m"},
		{"() / ''", "''"}, {"m / s / m", "m / s"},
	})
}

// P14.1: singles one behind another in a choice.
func TestSingles(t *testing.T) {
	leans(t, [][2]string{
		{"'x' / 'y'", "[xy]"}, {"'x' / 'x'", "'x'"}, {"'x' / [x]", "'x'"}, {"'x' / 'y' / 'z'", "[x-z]"}, {"'x' / m / 'y'", "'x' / m / 'y'"}, {"'x' / 'y' / m / 'z' / 'w'", "[xy] / m / [wz]"}, {"'x' / ('y' / 'z')", "[x-z]"}, {"('x' / m) / ('y' / 'z')", "'x' / m / [yz]"},
		{"'x' / .", "."}, {". / 'x'", "."}, {". / .", "."}, {"[^x] / 'x'", "."}, {"[\\x00-m] / [m-\\xff]", "."}, {"[a-m] / [n-z]", "[a-z]"}, {"m / [a-m] / . / n", "m / . / n"},
		{"'\\'' / [']", "[']"}, {"['] / '\\''", "[']"}, {"'\\'' / '\\''", "'\\''"}, {"'\\'' / 'x'", "['x]"}, {"'x' / '\\''", "['x]"}, {"'\\'' / m", "'\\'' / m"}, {"['] / m", "['] / m"},
		{"'x' / [] / 'y'", "[xy]"}, {"'x' / f / 'y'", "[xy]"}, {"'x' / m / 'x' / 'y'", "'x' / m / 'y'"}, {"m / 'x' / m / 'y'", "m / [xy]"}, {"'x' / 'y' / m / [xy]", "[xy] / m / [xy]"}, {"'x' / 'yz' / 'y'", "'x' / 'yz' / 'y'"}, {"'x' / '' / 'y'", "'x' / ''"}, {"'x' / 'y' / ()", "[xy] / ''"}, {"'x' / 'y'* / 'z'", "'x' / 'y'*"},
		{"('x' / 'y')*", "[xy]*"}, {"!('x' / 'y') .", "![xy] ."}, {"'w' ('x' / [x]) 'y'", "'wxy'"}, {"'x' '' / 'y'", "[xy]"},
	})
}

// P14.1: what has a sign.
func TestSigns(t *testing.T) {
	leans(t, [][2]string{
		{"m?", "m?"}, {"f?", "''"}, {"[]?", "''"}, {"(m f)?", "''"}, {"(&m)?", "''"}, {"(!m)?", "''"}, {"(!(!m))?", "''"}, {"(&())?", "''"}, {"(!())?", "''"}, {"s?", "s"}, {"()?", "''"}, {"(m?)?", "m?"}, {"('x'*)?", "'x'*"}, {"('x'+)?", "'x'*"}, {"(('x'+)?)?", "'x'*"}, {"(('x'+)+)?", "'x'*"}, {"('xy' / s)?", "'xy' / s"}, {"(s 'x'*)?", "s 'x'*"}, {"(m n)?", "(m n)?"}, {"('x' / f)?", "'x'?"}, {"(&m n)?", "(&m n)?"}, {"(&m / !n)?", "(&m / !n)?"},
		{"'x'*", "'x'*"}, {"f*", "''"}, {"[]*", "''"}, {"('x' f)*", "''"}, {"('x'+)*", "'x'*"}, {"(('x'+)+)*", "'x'*"}, {"('x' 'y')*", "'xy'*"}, {"('x' / 'y'+)*", "('x' / 'y'+)*"}, {"('x' m)*", "('x' m)*"}, {"(f / 'x'+)*", "'x'*"},
		{"'x'+", "'x'+"}, {"f+", "[]"}, {"[]+", "[]"}, {"(m f)+", "[]"}, {"('x'+)+", "'x'+"}, {"(('x'+)+)+", "'x'+"}, {"('x' / 'y')+", "[xy]+"}, {"('' 'x'+)+", "'x'+"}, {"('x' 'y'+)+", "('x' 'y'+)+"},
		{"&m", "&m"}, {"&s", "''"}, {"&()", "''"}, {"&m?", "''"}, {"&'x'*", "''"}, {"&f", "[]"}, {"&[]", "[]"}, {"&(m f)", "[]"}, {"&(&m)", "&m"}, {"&(!m)", "!m"}, {"&(&(&m))", "&m"}, {"&(!(&m))", "!m"}, {"&(m / ())", "''"}, {"&(m n)", "&(m n)"}, {"&'x'+", "&'x'+"}, {"&(&m n)", "&(&m n)"}, {"&(&m)?", "''"},
		{"!m", "!m"}, {"!s", "[]"}, {"!()", "[]"}, {"!m?", "[]"}, {"!'x'*", "[]"}, {"!f", "''"}, {"![]", "''"}, {"!(m f)", "''"}, {"!(&m)", "!m"}, {"!(!m)", "&m"}, {"!(!(!m))", "!m"}, {"!(!(!(!m)))", "&m"}, {"!(&(!m))", "&m"}, {"!(m / ())", "[]"}, {"!(m n)", "!(m n)"}, {"!'x'+", "!'x'+"}, {"!(!m n)", "!(!m n)"}, {"!(!())", "''"}, {"!(!f)", "[]"}, {"!(!m / !n)", "!(!m / !n)"},
	})
}

// P14.1: what an expression may come to is asked of the grammar as it came in, in which a rule may hang on others, and on itself.
func TestWhatRulesComeTo(t *testing.T) {
	for source, want := range map[string]string{
		"a <- b? c b <- c? c <- 'x'":                                     "a <- b c\nb <- c?\nc <- 'x'\n",
		"a <- b / c b <- d 'x' c <- 'y' d <- 'z' d":                      "a <- c\nc <- 'y'\n",
		"a <- b / c b <- d / 'x' c <- 'y' d <- 'z' d":                    "a <- b / c\nb <- 'x'\nc <- 'y'\n",
		"a <- b / c b <- !(!d) c <- 'y' d <- 'z'*":                       "a <- b\nb <- ''\n",
		"a <- b* 'x' b <- c d c <- 'x' d <- 'y' d / 'z' d":               "a <- 'x'\n",
		"a <- !b &c !c &b b <- 'x' b c <- d d <- ()":                     "a <- [] []\n",
		"a <- 'x' a / 'y'":                                               "a <- 'x' a / 'y'\n",
		"a <- 'x' a":                                                     "a <- 'x' a\n",
		"a <- 'x' b b <- 'y' a / f f <- 'z' f":                           "a <- 'x' b\nb <- []\n",
		"a <- (b / ()) b <- ('x' / b_ )? b_ <- 'y'":                      "a <- b\nb <- ('x' / b_)?\nb_ <- 'y'\n",
		"a <- !(b c) b <- 'x'* c <- 'y'? 'z'?":                           "a <- []\n",
		"a <- 'x' / b / 'y' b <- [z]":                                    "a <- 'x' / b / 'y'\nb <- 'z'\n",
		"s <- e !. e <- t ('+' t)* t <- ([0-4] / [5-9])+ / '(' e (')')?": "s <- e !.\ne <- t ('+' t)*\nt <- [0-9]+ / '(' e ')'?\n",
	} {
		becomes(t, source, want)
	}
}

// P14.1: rules to which the start no longer leads are gone, the others stay in their order.
func TestRulesThatAreLeft(t *testing.T) {
	for source, want := range map[string]string{
		"a <- 'x' b <- a":                                           "a <- 'x'\n",
		"a <- c b <- 'x' c <- 'y' d <- b":                           "a <- c\nc <- 'y'\n",
		"a <- d / b b <- 'x' c <- 'y' d <- 'z' b":                   "a <- d / b\nb <- 'x'\nd <- 'z' b\n",
		"a <- () / b b <- 'x'":                                      "a <- ''\n",
		"a <- &b? c b <- 'x' c <- 'y'":                              "a <- c\nc <- 'y'\n",
		"a <- (!b)? c b <- 'x' c <- 'y' b":                          "a <- c\nb <- 'x'\nc <- 'y' b\n",
		"a <- (f b)* c b <- c c <- d / ([] b)? d <- 'x' f <- 'f' f": "a <- c\nc <- d / ''\nd <- 'x'\n",
		"a <- 'x' a / b b <- () / c c <- 'y' a":                     "a <- 'x' a / b\nb <- ''\n",
		"b <- 'x' a / 'y' a <- b a":                                 "b <- 'y'\n",
	} {
		becomes(t, source, want)
	}
}

// P14.1, P14.5: as much as a source may hold.
func TestGreatGrammars(t *testing.T) {
	most := "a <- '" + strings.Repeat("x", api.MaxLit) + "'"
	becomes(t, most, most+"\n")
	var rules, chain string
	for i := range api.MaxRules {
		rules += name(i) + " <- 'x' ('y' " + name((i+1)%api.MaxRules) + ") / [x]\n"
		chain += name(i) + " <- 'x' 'y' " + name((i+1)%api.MaxRules) + " / 'x'\n"
	}
	becomes(t, rules, strings.ReplaceAll(chain, "'x' 'y'", "'xy'"))
	becomes(t, "a <- "+strings.Repeat("(", 24)+"'x'"+strings.Repeat(" 'y')", 24), "a <- 'x"+strings.Repeat("y", 24)+"'\n")
	becomes(t, "a <- "+strings.Repeat("!(", 24)+"!b"+strings.Repeat(")", 24)+" b <- 'x'", "a <- !b\nb <- 'x'\n")
	becomes(t, "a <- "+strings.Repeat("!(", 24)+"b"+strings.Repeat(")", 24)+" b <- 'x'", "a <- &b\nb <- 'x'\n")
	becomes(t, "a <- "+strings.Repeat("(", 24)+"b b"+strings.Repeat(" / b c)", 24)+" b <- 'x' c <- 'y'", "a <- b b / b c\nb <- 'x'\nc <- 'y'\n")
	deep := "a <- " + strings.Repeat("('x' / b ", 24) + "b" + strings.Repeat(")", 24) + "\nb <- 'y'\n"
	becomes(t, deep, "a <- 'x' / b ("+strings.TrimPrefix(strings.Replace(deep, ")", "", 1), "a <- ('x' / b ("))
	becomes(t, "a <- "+strings.Repeat("()/", 1600)+"'x'", "a <- ''\n")
	becomes(t, "a <- "+strings.Repeat("'x'/", 1000)+"b b <- 'y'", "a <- 'x' / b\nb <- 'y'\n")
	becomes(t, "a <- "+strings.Repeat("'x' ", 1500), "a <- "+strings.Repeat("'"+strings.Repeat("x", 255)+"' ", 5)+"'"+strings.Repeat("x", 225)+"'\n")
	becomes(t, "a <- "+strings.Repeat("[] ", 2500), "a <- "+strings.TrimSpace(strings.Repeat("[] ", 2500))+"\n")
}

// P14.1: sound.Check's error, with its place, and nothing beside it.
func TestGrammarsThatAreRefused(t *testing.T) {
	dot := bare(api.Any)
	seen := map[api.Errno]int{}
	for _, g := range []api.Grammar{
		{},
		ruled(api.Rule{Name: "a"}),
		ruled(api.Rule{Name: "", Body: dot}),
		ruled(api.Rule{Name: "a", Body: bare(13)}),
		ruled(api.Rule{Name: "a", Body: bare(api.MinInt)}),
		ruled(api.Rule{Name: "a", Body: bare(api.Star)}),
		ruled(api.Rule{Name: "a", Body: bare(api.Seq)}),
		ruled(api.Rule{Name: "a", Body: over(api.Alt, dot)}),
		ruled(api.Rule{Name: "a", Body: over(api.Not, dot, dot)}),
		ruled(api.Rule{Name: "a", Body: api.Node{Kind: api.Any, Text: "x"}}),
		ruled(api.Rule{Name: "a", Body: lit(strings.Repeat("x", api.MaxLit+1))}),
		ruled(api.Rule{Name: "a", Body: within(api.MaxNest+2, api.Not, dot)}),
		ruled(api.Rule{Name: "a", Body: dot}, api.Rule{Name: "b", Body: over(api.Seq, dot, bare(0))}),
		ruled(slices.Repeat([]api.Rule{{Name: "a", Body: dot}}, api.MaxRules+1)...),
		ruled(api.Rule{Name: "a", Body: over(api.Seq, slices.Repeat([]api.Node{ref("a")}, api.MaxSource)...)}),
		parsed(t, "a <- . b <- . a <- ."),
		parsed(t, "a <- . b <- . c"),
		parsed(t, "a <- 'x' ('y'?)*"),
		parsed(t, "a <- . b <- ()+"),
		// What is not sound is refused, even where the lean form would not have it.
		parsed(t, "a <- () / ('x'?)*"),
		parsed(t, "a <- () / a"),
		parsed(t, "a <- a"),
		parsed(t, "a <- . b <- 'x'? c / . c <- !b ."),
	} {
		want := sound.Check(g)
		got, err := Grammar(g)
		if want == nil || got.Rules != nil || api.Code(err) != api.Code(want) || api.At(err) != api.At(want) {
			t.Error(shown(g), got, err, "not", want)
		}
		seen[api.Code(err)]++
	}
	for _, code := range []api.Errno{api.ErrLong, api.ErrTree, api.ErrDouble, api.ErrName, api.ErrLoop, api.ErrLeft} {
		if seen[code] == 0 {
			t.Error("no", code)
		}
	}
}

// P14.2
func TestSize(t *testing.T) {
	for source, want := range map[string]int{
		"a <- 'x' ('y' () 'z') / [a] / 'b' / 'c'* / .": 12,
		"a <- ()":                  1,
		"a <- b":                   1,
		"a <- b b <- 'x'":          2,
		"a <- 'x' 'y'":             3,
		"a <- !(&b?) b <- ('x'+)*": 7,
		"a <- a a / a":             5,
		"a <- 'x' b <- 'y' c <- .": 3,
		"a <- x a <- ('x'?)* y":    6,
	} {
		if got := Size(parsed(t, source)); got != want {
			t.Error(source, got, "not", want)
		}
	}
}

// P14.2: of any grammar, be it a tree or not.
func TestSizeOfAnyGrammar(t *testing.T) {
	dot := bare(api.Any)
	for _, x := range []struct {
		g    api.Grammar
		want int
	}{
		{api.Grammar{}, 0},
		{ruled(), 0},
		{ruled(api.Rule{}), 1},
		{ruled(api.Rule{}, api.Rule{}, api.Rule{}), 3},
		{ruled(api.Rule{Body: bare(api.MinInt)}), 1},
		{ruled(api.Rule{Name: "a", Body: over(api.Any, dot, over(99, dot))}), 4},
		{ruled(api.Rule{Name: "a", Body: over(api.Seq)}, api.Rule{Name: "a", Body: over(api.Not, dot, dot)}), 4},
		{ruled(api.Rule{Body: within(60000, api.Not, dot)}), 60001},
		{ruled(slices.Repeat([]api.Rule{{Name: "a", Body: over(api.Alt, slices.Repeat([]api.Node{dot}, 99)...)}}, 300)...), 30000},
		{ruled(api.Rule{Body: api.Node{Kind: api.Alt, Subs: append(make([]api.Node, 0, 9), dot, dot)}}), 3},
	} {
		if got := Size(x.g); got != x.want {
			t.Error(got, "not", x.want)
		}
	}
}
