package syntax

import (
	"slices"
	"strconv"
	"strings"
	"testing"
	"unsafe"

	"muntin/api"
	"muntin/class"
	"muntin/lex"
)

// kindNames are the words for the kinds of nodes, each at its number.
var kindNames = []string{"?", "Empty", "Lit", "Set", "Any", "Ref", "Seq", "Alt", "Opt", "Star", "Plus", "And", "Not"}

// drawn is a node with all that is in it: its kind, its place, and of text, class and parts those that are not zero.
func drawn(n api.Node, places bool) string {
	out := kindNames[n.Kind]
	if places {
		out += "@" + strconv.Itoa(n.At)
	}
	if n.Text != "" {
		out += strconv.Quote(n.Text)
	}
	if n.Class != (api.Class{}) {
		out += class.Text(n.Class)
	}
	var subs []string
	for _, sub := range n.Subs {
		subs = append(subs, drawn(sub, places))
	}
	if len(subs) > 0 {
		out += "(" + strings.Join(subs, " ") + ")"
	}
	return out
}

// drawnGrammar is a grammar with all that is in it, a rule behind the other.
func drawnGrammar(g api.Grammar, places bool) string {
	var rules []string
	for _, rule := range g.Rules {
		name := rule.Name
		if places {
			name += "@" + strconv.Itoa(rule.At)
		}
		rules = append(rules, name+": "+drawn(rule.Body, places))
	}
	return strings.Join(rules, "; ")
}

// reads holds Parse to the tree of a source.
func reads(t *testing.T, s, want string) {
	t.Helper()
	g, err := Parse(s)
	if got := drawnGrammar(g, true); err != nil || got != want {
		t.Errorf("%q: %s %v, not %s", s, got, err, want)
	}
}

// refuses holds Parse to a Fault, told as it is, and to nothing beside it.
func refuses(t *testing.T, s string, code api.Errno, at int) {
	t.Helper()
	want := api.Fault{Code: code, At: at}
	g, err := Parse(s)
	if fault, ok := err.(*api.Fault); len(g.Rules) != 0 || !ok || *fault != want {
		t.Errorf("%q: %s %v, not %v", s, drawnGrammar(g, true), err, &want)
	}
}

// P4.1, P4.2
func TestExamplesOfTheChapter(t *testing.T) {
	reads(t, "a <- 'x' b* / !. b <- [0-9]", `a@0: Alt@5(Seq@5(Lit@5"x" Star@9(Ref@9"b")) Not@14(Any@15)); b@17: Set@22[0-9]`)
	reads(t, "a <- (b / ) c?", `a@0: Seq@6(Alt@6(Ref@6"b" Empty@10) Opt@12(Ref@12"c"))`)
	refuses(t, "", api.ErrEnd, 0)
	reads(t, "a <-", "a@0: Empty@4")
	refuses(t, "a <- )", api.ErrForm, 5)
	reads(t, "a <- b <-", "a@0: Empty@5; b@5: Empty@9")
	refuses(t, "a 'x'", api.ErrForm, 2)
	refuses(t, "a <- 'x'**", api.ErrForm, 9)
}

// P4.2: each kind of node, with nothing but what it has.
func TestEachKindOfNode(t *testing.T) {
	for source, want := range map[string]string{
		"b":      `Ref@5"b"`,
		"'x\\n'": `Lit@5"x\n"`,
		`"x"`:    `Lit@5"x"`,
		"''":     "Lit@5",
		"[a-c]":  "Set@5[a-c]",
		"[]":     "Set@5",
		"[^]":    `Set@5` + class.Text(class.Not(api.Class{})),
		".":      "Any@5",
		"b?":     `Opt@5(Ref@5"b")`,
		"b*":     `Star@5(Ref@5"b")`,
		"b+":     `Plus@5(Ref@5"b")`,
		"&b":     `And@5(Ref@6"b")`,
		"!b":     `Not@5(Ref@6"b")`,
		"":       "Empty@5",
		"b c":    `Seq@5(Ref@5"b" Ref@7"c")`,
		"b / c":  `Alt@5(Ref@5"b" Ref@9"c")`,
	} {
		reads(t, "a <- "+source, "a@0: "+want)
		reads(t, "a <- ("+source+")", "a@0: "+moved(want, 1))
	}
}

// moved is a drawn tree with each place that much further on.
func moved(drawn string, by int) string {
	parts := strings.Split(drawn, "@")
	for i, part := range parts[1:] {
		end := strings.IndexFunc(part+" ", func(r rune) bool { return r < '0' || r > '9' })
		at, _ := strconv.Atoi(part[:end])
		parts[i+1] = strconv.Itoa(at+by) + part[end:]
	}
	return strings.Join(parts, "@")
}

// P4.2
func TestSignsOfParts(t *testing.T) {
	for source, want := range map[string]string{
		"&b?":     `And@5(Opt@6(Ref@6"b"))`,
		"!b*":     `Not@5(Star@6(Ref@6"b"))`,
		"& b +":   `And@5(Plus@7(Ref@7"b"))`,
		"!'x'?":   `Not@5(Opt@6(Lit@6"x"))`,
		"&.*":     `And@5(Star@6(Any@6))`,
		"![a]+":   `Not@5(Plus@6(Set@6[a]))`,
		"(&b)?":   `Opt@6(And@6(Ref@7"b"))`,
		"&(!b)":   `And@5(Not@7(Ref@8"b"))`,
		"!(!b)":   `Not@5(Not@7(Ref@8"b"))`,
		"(b?)*":   `Star@6(Opt@6(Ref@6"b"))`,
		"((b+))+": `Plus@7(Plus@7(Ref@7"b"))`,
		"!()":     `Not@5(Empty@7)`,
		"()*":     `Star@6(Empty@6)`,
		"&( )+":   `And@5(Plus@8(Empty@8))`,
		"b?c*":    `Seq@5(Opt@5(Ref@5"b") Star@7(Ref@7"c"))`,
		"&b!c":    `Seq@5(And@5(Ref@6"b") Not@7(Ref@8"c"))`,
		"b&c":     `Seq@5(Ref@5"b" And@6(Ref@7"c"))`,
		"(b c)+":  `Plus@6(Seq@6(Ref@6"b" Ref@8"c"))`,
		"!(b/c)":  `Not@5(Alt@7(Ref@7"b" Ref@9"c"))`,
	} {
		reads(t, "a <- "+source, "a@0: "+want)
	}
}

// P4.2: rows and choices go on as long as may be, and are not laid into one another.
func TestRowsAndChoices(t *testing.T) {
	for source, want := range map[string]string{
		"b c d":          `Seq@5(Ref@5"b" Ref@7"c" Ref@9"d")`,
		"b/c/d":          `Alt@5(Ref@5"b" Ref@7"c" Ref@9"d")`,
		"b c/d":          `Alt@5(Seq@5(Ref@5"b" Ref@7"c") Ref@9"d")`,
		"b/c d":          `Alt@5(Ref@5"b" Seq@7(Ref@7"c" Ref@9"d"))`,
		"(b c)d":         `Seq@6(Seq@6(Ref@6"b" Ref@8"c") Ref@10"d")`,
		"b(c d)":         `Seq@5(Ref@5"b" Seq@7(Ref@7"c" Ref@9"d"))`,
		"(b/c)/d":        `Alt@6(Alt@6(Ref@6"b" Ref@8"c") Ref@11"d")`,
		"b/(c/d)":        `Alt@5(Ref@5"b" Alt@8(Ref@8"c" Ref@10"d"))`,
		"((b)(c))":       `Seq@7(Ref@7"b" Ref@10"c")`,
		"'/' '*' \"(\"":  `Seq@5(Lit@5"/" Lit@9"*" Lit@13"(")`,
		"'&' [!] '.'+":   `Seq@5(Lit@5"&" Set@9[!] Plus@13(Lit@13"."))`,
		"'<-' [?] ')'":   `Seq@5(Lit@5"<-" Set@10[?] Lit@14")")`,
		"b.c'd'[e](f).":  `Seq@5(Ref@5"b" Any@6 Ref@7"c" Lit@8"d" Set@11[e] Ref@15"f" Any@17)`,
		"a a / a # a\na": `Alt@5(Seq@5(Ref@5"a" Ref@7"a") Seq@11(Ref@11"a" Ref@17"a"))`,
	} {
		reads(t, "a <- "+source, "a@0: "+want)
	}
}

// P4.2: an Empty stands at the token behind it; parentheses leave no trace.
func TestPlacesOfEmpties(t *testing.T) {
	for source, want := range map[string]string{
		"  ":       "Empty@7",
		"# note":   "Empty@11",
		"()":       "Empty@6",
		"(  )":     "Empty@8",
		"(())":     "Empty@7",
		"( ( ) )":  "Empty@9",
		"/":        "Alt@5(Empty@5 Empty@6)",
		"/ ":       "Alt@5(Empty@5 Empty@7)",
		"//":       "Alt@5(Empty@5 Empty@6 Empty@7)",
		"/b":       `Alt@5(Empty@5 Ref@6"b")`,
		"b/":       `Alt@5(Ref@5"b" Empty@7)`,
		"b//c":     `Alt@5(Ref@5"b" Empty@7 Ref@8"c")`,
		"(/)":      "Alt@6(Empty@6 Empty@7)",
		"( / )b":   `Seq@7(Alt@7(Empty@7 Empty@9) Ref@10"b")`,
		"()b":      `Seq@6(Empty@6 Ref@7"b")`,
		"()/b":     `Alt@6(Empty@6 Ref@8"b")`,
		"b()":      `Seq@5(Ref@5"b" Empty@7)`,
		"()()":     "Seq@6(Empty@6 Empty@8)",
		"( ((b)))": `Ref@9"b"`,
	} {
		reads(t, "a <- "+source, "a@0: "+want)
	}
	reads(t, "a <- / c <- b/ d <-", `a@0: Alt@5(Empty@5 Empty@7); c@7: Alt@12(Ref@12"b" Empty@15); d@15: Empty@19`)
	reads(t, "a<-()b<-", "a@0: Empty@4; b@5: Empty@8")
}

// P4.1
func TestRules(t *testing.T) {
	reads(t, "a<-b", `a@0: Ref@3"b"`)
	reads(t, " a <- b a <- c\n", `a@1: Ref@6"b"; a@8: Ref@13"c"`)
	reads(t, "a <- a a <- a", `a@0: Ref@5"a"; a@7: Ref@12"a"`)
	reads(t, "# x <- y\na <- # b <-\nc", `a@9: Ref@21"c"`)
	reads(t, "a<-b<-c<-", "a@0: Empty@3; b@3: Empty@6; c@6: Empty@9")
	reads(t, "a <- b?c <- d", `a@0: Opt@5(Ref@5"b"); c@7: Ref@12"d"`)
	reads(t, "a <- b c# \n<- d", `a@0: Ref@5"b"; c@7: Ref@14"d"`)
	long := strings.Repeat("n", api.MaxName)
	reads(t, long+" <- "+long, long+`@0: Ref@36"`+long+`"`)
}

// P4.1: what the layer below tells is told first, wherever it is.
func TestWrongTokensFirst(t *testing.T) {
	refuses(t, "a <- $", api.ErrForm, 5)
	refuses(t, ") $", api.ErrForm, 2)
	refuses(t, ") 'x", api.ErrEnd, 4)
	refuses(t, "a a [b-a]", api.ErrForm, 5)
	refuses(t, ") "+strings.Repeat("n", api.MaxName+1), api.ErrLong, 2)
	refuses(t, strings.Repeat("(", api.MaxSource+1), api.ErrLong, -1)
	refuses(t, strings.Repeat(" ", api.MaxSource+1), api.ErrLong, -1)
	refuses(t, strings.Repeat("a <- ", api.MaxRules+1)+"<", api.ErrForm, 325)
	refuses(t, strings.Repeat(" ", api.MaxSource), api.ErrEnd, api.MaxSource)
	reads(t, "a<-"+strings.Repeat(" ", api.MaxSource-3), "a@0: Empty@8192")
}

// P4.1
func TestTokensThatCannotStand(t *testing.T) {
	for _, source := range []string{"", " ", "#", "a", " a ", "a <- &", "a <- b !", "a <- &#", "a <- (", "a <- (b", "a <- (b /", "a <- (b) (", "a <- ((b)", "a <- &(b", "a <- b c <- ("} {
		refuses(t, source, api.ErrEnd, len(source))
	}
	// A `@` is not part of the source: it stands ahead of the wrong token.
	for _, marked := range []string{
		"@<-", "@<- b", "@'x'", "@[x]", "@.", "@(a <- b)", "@/", "@&", "@!a <- b", "@?", "@*", "@+", "@)", "@()",
		"a @b", "a @b <- c", "a @'x'", "a @[x]", "a @.", "a @(", "a @)", "a @/", "a @&", "a @?",
		"a <- @<-", "a <- b c <- @<-", "a <- 'x' @<-", "a <- . @<- b", "a <- b <- c <- d <- @<- e", "a <- (b) @<-", "a <- b? @<-",
		"a <- @?", "a <- @*", "a <- @+", "a <- b / @?", "a <- (@*)", "a <- (b / @+)", "a <- b?@?", "a <- b*@?", "a <- b+@*", "a <- b?@+", "a <- &b?@?", "a <- (b?)*@*", "a <- b <- @?",
		"a <- &@&b", "a <- !@!b", "a <- &@!b", "a <- !@&b", "a <- &@?", "a <- !@/", "a <- &@)", "a <- (!@)", "a <- &@<-", "a <- b / &@/ c",
		"a <- @)", "a <- b@)", "a <- (b)@)", "a <- ()@)", "a <- /@)", "a <- b?@)", "a <- b c <- @)", "a <- (b c) d <- e@)",
		"a <- &@b <- c", "a <- !@b <-", "a <- (@b <- c)", "a <- (b @c <- d", "a <- (b / @c <-)", "a <- (b) &@c <-", "a <- ((b) @c <- d)", "a <- (@a <-",
	} {
		refuses(t, strings.Replace(marked, "@", "", 1), api.ErrForm, strings.Index(marked, "@"))
	}
}

// P4.1: of several the first one by its place.
func TestTheFirstWrongTokenIsTold(t *testing.T) {
	refuses(t, "a <- ) ) (", api.ErrForm, 5)
	refuses(t, "a <- (b ** <-", api.ErrForm, 9)
	refuses(t, "<- &", api.ErrForm, 0)
	refuses(t, "a <- ** (", api.ErrForm, 5)
	deep := strings.Repeat("(", api.MaxNest+1)
	refuses(t, "a <- ** "+deep, api.ErrForm, 5)
	refuses(t, "a <- "+deep+" **", api.ErrLong, 29)
	refuses(t, "a <- "+deep[1:]+"* (", api.ErrForm, 29)
	many := strings.Repeat("a <- ", api.MaxRules)
	refuses(t, "a <- ) "+many, api.ErrForm, 5)
	refuses(t, many+"b <- )", api.ErrLong, 320)
	refuses(t, many+deep+" b <- c", api.ErrLong, 344)
	refuses(t, many+"b <- "+deep, api.ErrLong, 320)
}

// P4.1
func TestRulesHaveALimit(t *testing.T) {
	for _, one := range []string{"a <- ", "a <- b ", "a <- (b / c)* ", "a <- / "} {
		most := strings.Repeat(one, api.MaxRules)
		g, err := Parse(most)
		if err != nil || len(g.Rules) != api.MaxRules || g.Rules[63].At != 63*len(one) {
			t.Errorf("%q: %d rules, %v", one, len(g.Rules), err)
		}
		refuses(t, most+"b <-", api.ErrLong, len(most))
		refuses(t, most+"b<- b <- b <- b", api.ErrLong, len(most))
		refuses(t, most+most, api.ErrLong, len(most))
	}
	// The last rule that may be may have all that a rule has; only another one's name is too much.
	most := strings.Repeat("a <- ", api.MaxRules)
	if g, err := Parse(most + "b c (d)"); err != nil || len(g.Rules) != api.MaxRules {
		t.Error(len(g.Rules), err)
	}
	refuses(t, most+")", api.ErrForm, 320)
	refuses(t, most+"<-", api.ErrForm, 320)
	refuses(t, most+"b 'c' <-", api.ErrForm, 326)
	refuses(t, most+"&b <-", api.ErrForm, 321)
	refuses(t, most+"(b <-)", api.ErrForm, 321)
	refuses(t, most+"(", api.ErrEnd, 321)
}

// P4.1
func TestParenthesesHaveALimit(t *testing.T) {
	open, shut := strings.Repeat("(", api.MaxNest), strings.Repeat(")", api.MaxNest)
	reads(t, "a <- "+open+"b"+shut, `a@0: Ref@29"b"`)
	reads(t, "a <- "+open+shut, "a@0: Empty@29")
	reads(t, "a <- "+open+shut+open+"b"+shut, `a@0: Seq@29(Empty@29 Ref@77"b")`)
	reads(t, "a <- "+open+shut+" c <- "+open+"b"+shut, `a@0: Empty@29; c@54: Ref@83"b"`)
	refuses(t, "a <- "+open+"("+shut+")", api.ErrLong, 29)
	refuses(t, "a <- "+open+"b/(c", api.ErrLong, 31)
	refuses(t, "a <- "+open+"b !(c", api.ErrLong, 32)
	refuses(t, "a <- "+open+") ((b", api.ErrLong, 32)
	refuses(t, "a <- "+open+shut+open+"(", api.ErrLong, 77)
	refuses(t, "a <- b c <- "+strings.Repeat("(", api.MaxSource-12), api.ErrLong, 36)
	if _, err := Parse("a <- " + strings.Repeat("(b / &(c ", 12) + strings.Repeat(")* d)?", 12)); err != nil {
		t.Error(err)
	}
	if _, err := Parse("a <- " + strings.Repeat("()", 1000)); err != nil {
		t.Error(err)
	}
}

// P4.1, with W9.
func TestErrorsInWords(t *testing.T) {
	for s, want := range map[string]string{"": "error 3 at 0", "a <- )": "error 4 at 5", "a <- " + strings.Repeat("(", 25): "error 2 at 29", "a <- [b-a]": "error 4 at 6"} {
		if _, err := Parse(s); err == nil || err.Error() != want {
			t.Errorf("%q: %v, not %s", s, err, want)
		}
	}
}

// span is a piece of memory.
type span struct{ from, to uintptr }

// textSpan is where a text's bytes are.
func textSpan(s string) span {
	from := uintptr(unsafe.Pointer(unsafe.StringData(s)))
	return span{from, from + uintptr(len(s))}
}

// listSpan is where a list's items are, its spare room too.
func listSpan[T any](l []T) span {
	var one T
	from := uintptr(unsafe.Pointer(unsafe.SliceData(l)))
	return span{from, from + uintptr(cap(l))*unsafe.Sizeof(one)}
}

// spansOf are the pieces of memory of which nodes are made.
func spansOf(nodes []api.Node) (texts, lists []span) {
	lists = append(lists, listSpan(nodes))
	for _, n := range nodes {
		texts = append(texts, textSpan(n.Text))
		moreTexts, moreLists := spansOf(n.Subs)
		texts, lists = append(texts, moreTexts...), append(lists, moreLists...)
	}
	return texts, lists
}

// apart tells whether no two of these pieces, but empty ones, have a byte in common.
func apart(spans []span) bool {
	spans = slices.DeleteFunc(slices.Clone(spans), func(s span) bool { return s.from == s.to })
	slices.SortFunc(spans, func(a, b span) int { return int(a.from) - int(b.from) })
	for i := 1; i < len(spans); i++ {
		if spans[i].from < spans[i-1].to {
			return false
		}
	}
	return true
}

// P4.3
func TestAnswersAreNewMemory(t *testing.T) {
	const source = "name <- 'lit' (name / other [a-z])* !(. 'x' / ) / () other <- name"
	handed := []byte(source)
	s := unsafe.String(&handed[0], len(handed))
	first, err := Parse(s)
	if err != nil {
		t.Fatal(err)
	}
	var bodies []api.Node
	texts, lists := []span{textSpan(s)}, []span{listSpan(first.Rules)}
	for _, rule := range first.Rules {
		bodies = append(bodies, rule.Body)
		texts = append(texts, textSpan(rule.Name))
	}
	moreTexts, moreLists := spansOf(bodies)
	if !apart(append(texts, moreTexts...)) || !apart(append(lists, moreLists...)) {
		t.Error("pieces of an answer share memory")
	}
	want := drawnGrammar(first, true)
	for i := range handed {
		handed[i] = '$'
	}
	if got := drawnGrammar(first, true); got != want {
		t.Error("an answer changes with the source:", got)
	}
	wipe(bodies)
	clear(first.Rules[:cap(first.Rules)])
	reads(t, source, want)
	_, wrong := Parse(")")
	wrong.(*api.Fault).At = 7
	refuses(t, ")", api.ErrForm, 0)
}

// wipe makes all nodes zero, their lists' spare room too.
func wipe(nodes []api.Node) {
	for _, n := range nodes {
		wipe(n.Subs)
	}
	clear(nodes[:cap(nodes)])
}

// letters stand for the tokens, one each: a sign for itself, `n` for a name, `h` for one ahead of a `<-`, `<` for that, `e` for the end.
func letters(tokens []api.Token) string {
	out := ""
	for i, token := range tokens {
		switch token.Kind {
		case api.TokName:
			if tokens[i+1].Kind == api.TokArrow || i == 0 {
				out += "h"
			} else {
				out += "n"
			}
		case api.TokArrow:
			out += "<"
		case api.TokLit:
			out += "l"
		case api.TokClass:
			out += "c"
		case api.TokSign:
			out += token.Text
		case api.TokEnd:
			out += "e"
		}
	}
	return out
}

// mayFollow are the letters that may stand behind a letter, those of the end of a rule and of a `)` among them.
func mayFollow(letter byte) string {
	const part = "nlc.&!("
	switch letter {
	case 'h':
		return "<"
	case '<', '/', '?', '*', '+':
		return part + "/he)"
	case '(':
		return part + "/)"
	case '&', '!':
		return "nlc.("
	}
	return part + "/he)?*+"
}

// judgedFault is what is wrong with tokens, from which of them may stand side by side and how many parentheses are open; nil if nothing is.
func judgedFault(tokens []api.Token) *api.Fault {
	text, deep, rules := letters(tokens), 0, 0
	may := "h"
	for i, token := range tokens {
		letter := text[i]
		switch outside := letter == 'h' || letter == 'e'; {
		case !strings.Contains(may, text[i:i+1]) || letter == ')' && deep == 0 || outside && deep > 0:
			if letter == 'e' {
				return &api.Fault{Code: api.ErrEnd, At: token.At}
			}
			return &api.Fault{Code: api.ErrForm, At: token.At}
		case letter == 'h':
			rules++
		case letter == '(':
			deep++
		case letter == ')':
			deep--
		}
		if rules > 64 || deep > 24 {
			return &api.Fault{Code: api.ErrLong, At: token.At}
		}
		may = mayFollow(letter)
	}
	return nil
}

// cut are tokens between those with that letter outside of parentheses, each piece with the token behind it at its end.
func cut(tokens []api.Token, letter string) [][]api.Token {
	var out [][]api.Token
	from, deep := 0, 0
	for i, token := range tokens {
		switch {
		case token.Kind == api.TokSign && token.Text == "(":
			deep++
		case token.Kind == api.TokSign && token.Text == ")" && i+1 < len(tokens):
			deep--
		}
		if i+1 == len(tokens) || deep == 0 && token.Kind == api.TokSign && token.Text == letter {
			out = append(out, tokens[from:i+1])
			from = i + 1
		}
	}
	return out
}

// judgedChoice is the tree of the tokens of a choice, the last of which stands behind it, cut from outside to inside.
func judgedChoice(tokens []api.Token) api.Node {
	return group(api.Alt, cut(tokens, "/"), func(row []api.Token) api.Node {
		if len(row) == 1 {
			return api.Node{Kind: api.Empty, At: row[0].At}
		}
		return group(api.Seq, judgedParts(row[:len(row)-1]), judgedPart)
	})
}

// group is a node of a kind over those of pieces, or that of the one piece.
func group(kind int, pieces [][]api.Token, each func([]api.Token) api.Node) api.Node {
	if len(pieces) == 1 {
		return each(pieces[0])
	}
	out := api.Node{Kind: kind}
	for _, piece := range pieces {
		out.Subs = append(out.Subs, each(piece))
	}
	out.At = out.Subs[0].At
	return out
}

// judgedParts are a row's tokens cut ahead of each one outside of parentheses that is neither a sign behind a part nor has `&`, `!` ahead of it.
func judgedParts(row []api.Token) [][]api.Token {
	var out [][]api.Token
	text, deep := letters(append(slices.Clone(row), api.Token{Kind: api.TokEnd})), 0
	from := 0
	for i := range row {
		begins := deep == 0 && !strings.Contains("?*+)", text[i:i+1]) && (i == 0 || !strings.Contains("&!", text[i-1:i]))
		if begins && i > 0 {
			out = append(out, row[from:i])
			from = i
		}
		deep += strings.Count(text[i:i+1], "(") - strings.Count(text[i:i+1], ")")
	}
	return append(out, row[from:])
}

// judgedPart is the tree of a part's tokens, the signs at its ends taken off.
func judgedPart(part []api.Token) api.Node {
	first, last := part[0], part[len(part)-1]
	ahead := map[string]int{"&": api.And, "!": api.Not}
	behind := map[string]int{"?": api.Opt, "*": api.Star, "+": api.Plus}
	switch {
	case first.Kind == api.TokSign && ahead[first.Text] > 0:
		return api.Node{Kind: ahead[first.Text], Subs: []api.Node{judgedPart(part[1:])}, At: first.At}
	case last.Kind == api.TokSign && behind[last.Text] > 0:
		sub := judgedPart(part[:len(part)-1])
		return api.Node{Kind: behind[last.Text], Subs: []api.Node{sub}, At: sub.At}
	case first.Kind == api.TokSign && first.Text == "(":
		return judgedChoice(part[1:])
	case first.Kind == api.TokSign:
		return api.Node{Kind: api.Any, At: first.At}
	}
	kind := map[int]int{api.TokName: api.Ref, api.TokLit: api.Lit, api.TokClass: api.Set}[first.Kind]
	return api.Node{Kind: kind, Text: first.Text, Class: first.Class, At: first.At}
}

// judgedGrammar is the grammar of tokens with which nothing is wrong.
func judgedGrammar(tokens []api.Token) api.Grammar {
	var out api.Grammar
	heads := []int{}
	for i, token := range tokens {
		if token.Kind == api.TokEnd || tokens[i+1].Kind == api.TokArrow {
			heads = append(heads, i)
		}
	}
	for i, head := range heads[:len(heads)-1] {
		body := judgedChoice(tokens[head+2 : heads[i+1]+1])
		out.Rules = append(out.Rules, api.Rule{Name: tokens[head].Text, Body: body, At: tokens[head].At})
	}
	return out
}

// checkSource holds Parse of a source to the chapter, told another way; it tells whether there was a grammar.
func checkSource(t *testing.T, s string) bool {
	t.Helper()
	tokens, err := lex.Tokens(s)
	if err != nil {
		refuses(t, s, api.Code(err), api.At(err))
		return false
	}
	if fault := judgedFault(tokens); fault != nil {
		refuses(t, s, fault.Code, fault.At)
		return false
	}
	want := judgedGrammar(tokens)
	reads(t, s, drawnGrammar(want, true))
	checkPlaces(t, s, tokens)
	return true
}

// checkPlaces holds a grammar's source to P4.4: blanks, notes and parentheses change nothing but places.
func checkPlaces(t *testing.T, s string, tokens []api.Token) {
	t.Helper()
	plain, err := Parse(s)
	if err != nil {
		t.Errorf("%q: %v", s, err)
		return
	}
	want := drawnGrammar(plain, false)
	for _, blank := range []string{" ", "\n\t\r ", "#\n", " # ( <- )\n "} {
		same(t, spread(s, tokens, blank, "", ""), want)
	}
	same(t, spread(s, tokens, "", "(", ")"), want)
	same(t, spread(s, tokens, "\n", " ( ( ", ") ) "), want)
	same(t, spread(s, tokens, "#()\n", "((#\n(", ")))"), want)
}

// same holds Parse of a source to a tree without its places, unless the source has become too long or too deep.
func same(t *testing.T, s, want string) {
	t.Helper()
	g, err := Parse(s)
	if api.Code(err) == api.ErrLong {
		return
	}
	if got := drawnGrammar(g, false); err != nil || got != want {
		t.Errorf("%q: %s %v, not %s", s, got, err, want)
	}
}

// spread is a source with a blank ahead of and behind each of its tokens, and each whole choice, of a rule or in parentheses, in others.
func spread(s string, tokens []api.Token, blank, open, shut string) string {
	out, body := blank, false
	for i, token := range tokens[:len(tokens)-1] {
		text := strings.TrimSpace(firstLine(s[token.At:tokens[i+1].At], token))
		head := tokens[i+1].Kind == api.TokArrow
		if body && (head || text == ")" && token.Kind == api.TokSign) {
			out += shut
		}
		if !head && token.Kind == api.TokName {
			text += " "
		}
		out += text + blank
		if token.Kind == api.TokArrow || token.Kind == api.TokSign && text == "(" {
			out, body = out+open, true
		}
	}
	return out + shut
}

// firstLine is a token's text, from one that begins with it and goes on with blanks and notes.
func firstLine(text string, token api.Token) string {
	for end := 1; end <= len(text); end++ {
		l, err := lex.Tokens(text[:end])
		whole := err == nil && len(l) == 2 && l[0].Kind == token.Kind && l[0].Text == token.Text && l[0].Class == token.Class
		if whole {
			return text[:end]
		}
	}
	return text
}

// P4.1, P4.2: all rows of up to five tokens behind some beginnings.
func TestAllShortSources(t *testing.T) {
	pieces := []string{"a", "<-", "'x'", "[y]", ".", "/", "&", "!", "?", "+", "(", ")"}
	var walk func(s string, left int)
	good := 0
	walk = func(s string, left int) {
		tokens, err := lex.Tokens(s)
		if err != nil {
			t.Fatal(s, err)
		}
		if fault := judgedFault(tokens); fault != nil {
			refuses(t, s, fault.Code, fault.At)
		} else {
			good++
			reads(t, s, drawnGrammar(judgedGrammar(tokens), true))
		}
		if left == 0 {
			return
		}
		for _, piece := range pieces {
			walk(s+" "+piece, left-1)
		}
	}
	walk("", 4)
	walk("a <-", 4)
	walk("a <- b", 3)
	walk("a <- (", 4)
	walk("a <- ( b", 3)
	if good < 5000 {
		t.Error("few grammars among the sources:", good)
	}
}

// dice are numbers that look like chance, the same ones in every run.
type dice uint64

// roll is a number below n.
func (d *dice) roll(n int) int {
	*d = *d*6364136223846793005 + 1442695040888963407
	return int(*d>>33) % n
}

// drawnSource is a source of so many rules with choices up to some depth, in which, now and then, a piece is wrong.
func (d *dice) drawnSource(rules, deep int, wrong bool) string {
	out := ""
	for range rules {
		out += d.pick("a", "bb", "c_1") + d.pick("<-", " <- ", "\n<-\t") + d.choice(deep, wrong) + d.pick(" ", "\n", "# a <- (\n")
	}
	return out
}

// pick is one of some texts.
func (d *dice) pick(texts ...string) string { return texts[d.roll(len(texts))] }

// choice is the text of a choice.
func (d *dice) choice(deep int, wrong bool) string {
	rows := make([]string, 1+d.roll(3)*d.roll(2))
	for i := range rows {
		for range d.roll(4) {
			rows[i] += d.part(deep, wrong) + d.pick(" ", "", "  ")
		}
	}
	return strings.Join(rows, d.pick("/", " / "))
}

// part is the text of a part.
func (d *dice) part(deep int, wrong bool) string {
	if wrong && d.roll(40) == 0 {
		return d.pick("?", "*", "&", "!", ")", "(", "<-", "a <-", "+", "&&", "$", "'", "[b-a]")
	}
	one := ""
	if deep > 0 && d.roll(3) == 0 {
		one = "(" + d.choice(deep-1, wrong) + ")"
	} else {
		one = d.pick("a ", "bb ", ".", "'x'", "''", `"/("`, "[a-z]", "[]", "'\\n'")
	}
	return d.pick("", "", "", "&", "!", "! ") + one + d.pick("", "", "", "?", "*", "+", " *")
}

// P4.1, P4.2, P4.4: drawn sources.
func TestDrawnSources(t *testing.T) {
	d := dice(4)
	good, bad := 0, 0
	for n := range 6000 {
		if checkSource(t, d.drawnSource(1+d.roll(4), d.roll(5), n%2 == 0)) {
			good++
		} else {
			bad++
		}
	}
	if good < 2000 || bad < 500 {
		t.Error("few sources of a kind:", good, bad)
	}
}

// P4.4
func TestBlanksNotesAndParenthesesChangeOnlyPlaces(t *testing.T) {
	for _, sources := range [][]string{
		{"a<-b c/d", " a <- b c / d ", "a<-(b c/d)", "a<-((b c/d))", "a # <-\n<- # (\n b#\nc/d#", "a <- ( b c / d # )\n)"},
		{"a<-", "a <- ", "a<-()", "a <- ( ( ) )", "#\na\n<-#"},
		{"a<-b c<-!d*", "a<-(b)c<-(!d*)", "a <- b\n# x <- y\nc <- ! d *"},
		{"a<-(b/c)*", "a<-((b/c))*", "a<-(((b/c)))*", "a<-((b/c)*)", "a <- ( b / c ) *"},
		{"a<-(b c)d", "a<-((b c)d)", "a<-((b c))d"},
	} {
		first, err := Parse(sources[0])
		if err != nil {
			t.Fatal(err)
		}
		for _, s := range sources {
			g, err := Parse(s)
			if got, want := drawnGrammar(g, false), drawnGrammar(first, false); err != nil || got != want {
				t.Errorf("%q: %s %v, not %s", s, got, err, want)
			}
		}
	}
	// Those around less than a whole choice do change the tree.
	for _, two := range [][2]string{{"a<-b c d", "a<-(b c)d"}, {"a<-b/c d", "a<-(b/c)d"}, {"a<-b c*", "a<-(b c)*"}, {"a<-!b c", "a<-!(b c)"}} {
		one, _ := Parse(two[0])
		other, err := Parse(two[1])
		if err != nil || drawnGrammar(one, false) == drawnGrammar(other, false) {
			t.Error(two, err)
		}
	}
}

func FuzzParse(f *testing.F) {
	for _, s := range []string{"", "a <- 'x' b* / !. b <- [0-9]", "a <- (b / ) c?", "a <- b <-", "a <- 'x'**", "a <- &(b+ / [x])?", "a <- ((()))", "a <- $"} {
		f.Add(s)
	}
	f.Fuzz(func(t *testing.T, s string) { checkSource(t, s) })
}
