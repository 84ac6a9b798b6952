package printer

import (
	"reflect"
	"slices"
	"strconv"
	"strings"
	"testing"
	"unsafe"

	"muntin/api"
	"muntin/class"
	"muntin/lex"
	"muntin/syntax"
)

// some is a class that is not the zero one.
var some = api.Class{0, 1 << 33}

func lit(s string) api.Node                      { return api.Node{Kind: api.Lit, Text: s} }
func ref(s string) api.Node                      { return api.Node{Kind: api.Ref, Text: s} }
func set(c api.Class) api.Node                   { return api.Node{Kind: api.Set, Class: c} }
func bare(kind int) api.Node                     { return api.Node{Kind: kind} }
func over(kind int, subs ...api.Node) api.Node   { return api.Node{Kind: kind, Subs: subs} }
func alone(body api.Node) api.Grammar            { return ruled(api.Rule{Name: "a", Body: body}) }
func ruled(rules ...api.Rule) api.Grammar        { return api.Grammar{Rules: rules} }
func nested(kind, deep int, n api.Node) api.Node { return within(deep, n, kind) }

// within is a node in so many others, each with it as its only part, of these kinds in turn.
func within(deep int, n api.Node, kinds ...int) api.Node {
	for i := range deep {
		n = over(kinds[i%len(kinds)], n)
	}
	return n
}

// doubled is a node in a row of two, in a row of two of these, and so on.
func doubled(deep int, n api.Node) api.Node {
	for range deep {
		n = over(api.Seq, n, n)
	}
	return n
}

// prints holds all calls to the text of a grammar.
func prints(t *testing.T, g api.Grammar, want string) {
	t.Helper()
	if got, err := Print(g); err != nil || got != want {
		t.Errorf("%.200q %v, not %.200q", got, err, want)
	}
	if err := Right(g); err != nil {
		t.Error(err)
	}
}

// refuses holds all calls to an error, with nothing beside it.
func refuses(t *testing.T, g api.Grammar, want api.Errno) {
	t.Helper()
	if got, err := Print(g); err != want || got != "" {
		t.Errorf("%.200q %v, not %v", got, err, want)
	}
	if err := Right(g); err != want {
		t.Errorf("%v, not %v", err, want)
	}
}

// parsed is the tree of a source.
func parsed(t *testing.T, s string) api.Grammar {
	t.Helper()
	g, err := syntax.Parse(s)
	if err != nil {
		t.Fatal(s, err)
	}
	return g
}

// P5.1
func TestExamplesOfTheChapter(t *testing.T) {
	prints(t, parsed(t, "a<-(('x'))/b*!(c d)b<-()/[a]"), "a <- 'x' / b* !(c d)\nb <- () / [a]\n")
	prints(t, parsed(t, "a<-(b*)+&(!c)"), "a <- (b*)+ &(!c)\n")
}

// P5.1, P5.2: the text of each kind.
func TestTextOfEachKind(t *testing.T) {
	b, c := ref("b"), ref("c")
	for want, n := range map[string]api.Node{
		"()":                bare(api.Empty),
		"''":                lit(""),
		"'x y'":             lit("x y"),
		`'\'"\\\n\r\t\x00'`: lit("'\"\\\n\r\t\x00"),
		"'('":               lit("("),
		"[]":                set(api.Class{}),
		"[a]":               set(some),
		`[\x00-\xff]`:       set(class.Not(api.Class{})),
		".":                 bare(api.Any),
		"b":                 b,
		"_9":                ref("_9"),
		"b c":               over(api.Seq, b, c),
		"b c b":             over(api.Seq, b, c, b),
		"b / c":             over(api.Alt, b, c),
		"b / c / b":         over(api.Alt, b, c, b),
		"() / ()":           over(api.Alt, bare(api.Empty), bare(api.Empty)),
		"() b ()":           over(api.Seq, bare(api.Empty), b, bare(api.Empty)),
		"b?":                over(api.Opt, b),
		"b*":                over(api.Star, b),
		"b+":                over(api.Plus, b),
		"&b":                over(api.And, b),
		"!b":                over(api.Not, b),
		"()?":               over(api.Opt, bare(api.Empty)),
		"!()":               over(api.Not, bare(api.Empty)),
		"b !c? / .":         over(api.Alt, over(api.Seq, b, over(api.Not, over(api.Opt, c))), bare(api.Any)),
	} {
		prints(t, alone(n), "a <- "+want+"\n")
		if got := Expr(n); got != want {
			t.Errorf("%q, not %q", got, want)
		}
	}
}

// sample is some node of a kind, and its text.
func sample(kind int) (api.Node, string) {
	b, c := ref("b"), ref("c")
	switch kind {
	case api.Empty:
		return bare(kind), "()"
	case api.Lit:
		return lit("x"), "'x'"
	case api.Set:
		return set(some), "[a]"
	case api.Any:
		return bare(kind), "."
	case api.Ref:
		return b, "b"
	case api.Seq:
		return over(kind, b, c), "b c"
	case api.Alt:
		return over(kind, b, c), "b / c"
	case api.And, api.Not:
		return over(kind, b), []string{"&", "!"}[kind-api.And] + "b"
	}
	return over(kind, b), "b" + []string{"?", "*", "+"}[kind-api.Opt]
}

// P5.1: which parts stand in parentheses, at each kind above each other.
func TestParentheses(t *testing.T) {
	marked := map[int][]int{
		api.Alt:  {api.Alt},
		api.Seq:  {api.Alt, api.Seq},
		api.And:  {api.Alt, api.Seq, api.And, api.Not},
		api.Not:  {api.Alt, api.Seq, api.And, api.Not},
		api.Opt:  {api.Alt, api.Seq, api.And, api.Not, api.Opt, api.Star, api.Plus},
		api.Star: {api.Alt, api.Seq, api.And, api.Not, api.Opt, api.Star, api.Plus},
		api.Plus: {api.Alt, api.Seq, api.And, api.Not, api.Opt, api.Star, api.Plus},
	}
	form := map[int]string{api.Alt: "@ / @", api.Seq: "@ @", api.And: "&@", api.Not: "!@", api.Opt: "@?", api.Star: "@*", api.Plus: "@+"}
	for kind, inner := range marked {
		for sub := api.Empty; sub <= api.Not; sub++ {
			n, text := sample(sub)
			if slices.Contains(inner, sub) {
				text = "(" + text + ")"
			}
			want := strings.ReplaceAll(form[kind], "@", text)
			whole := over(kind, n)
			if kind == api.Alt || kind == api.Seq {
				whole = over(kind, n, n)
			}
			prints(t, alone(whole), "a <- "+want+"\n")
			if got := Expr(whole); got != want {
				t.Errorf("%q, not %q", got, want)
			}
		}
	}
}

// P5.1
func TestLinesOfRules(t *testing.T) {
	g := ruled(api.Rule{Name: "a", Body: ref("b")}, api.Rule{Name: "b", Body: over(api.Alt, ref("a"), bare(api.Empty))}, api.Rule{Name: "a", Body: bare(api.Empty)})
	prints(t, g, "a <- b\nb <- a / ()\na <- ()\n")
}

// isRightNode is what the chapter says of a node by itself, kind by kind.
func isRightNode(kind int, text string, class api.Class, subs int) bool {
	type shape struct{ text, class, least, most int }
	shapes := map[int]shape{
		1: {}, 2: {text: 255}, 3: {class: 1}, 4: {}, 5: {text: 32},
		6: {least: 2, most: 9}, 7: {least: 2, most: 9},
		8: {least: 1, most: 1}, 9: {least: 1, most: 1}, 10: {least: 1, most: 1}, 11: {least: 1, most: 1}, 12: {least: 1, most: 1},
	}
	s, ok := shapes[kind]
	named := kind != 5 || text != "" && (text[0] == '_' || text[0] > '9') && !strings.ContainsAny(text, " \x00")
	return ok && named && len(text) <= s.text && (s.class == 1 || class == api.Class{}) && subs >= s.least && subs <= s.most
}

// P5.1: nodes with all that a node may have, right and wrong.
func TestNodesWithWrongParts(t *testing.T) {
	texts := []string{"", "b", "1", "b c", "\x00", strings.Repeat("b", 32), strings.Repeat("b", 33), strings.Repeat("b", 255), strings.Repeat("b", 256), strings.Repeat("\x00", 256)}
	right, wrong := 0, 0
	for _, kind := range []int{api.MinInt, -1, 0, 1, 2, 3, 4, 5, 6, 7, 8, 9, 10, 11, 12, 13, 14, 1 << 32, api.MaxInt} {
		for _, text := range texts {
			for _, class := range []api.Class{{}, some, {1}, {0, 0, 0, 1 << 63}} {
				for count := range 4 {
					n := api.Node{Kind: kind, Text: text, Class: class, Subs: slices.Repeat([]api.Node{bare(api.Any)}, count)}
					if isRightNode(kind, text, class, count) {
						right++
						isTreeAnywhere(t, n, nil)
					} else {
						wrong++
						isTreeAnywhere(t, n, api.ErrTree)
					}
				}
			}
		}
	}
	if right != 1+8+4+1+2+4+5 || wrong < 2500 {
		t.Error(right, wrong)
	}
}

// isTreeAnywhere holds Right and Expr to what is told of a node, which stands alone or within others.
func isTreeAnywhere(t *testing.T, n api.Node, want error) {
	t.Helper()
	dot := bare(api.Any)
	for _, g := range []api.Grammar{
		alone(n),
		ruled(api.Rule{Name: "a", Body: dot}, api.Rule{Name: "b", Body: n}, api.Rule{Name: "c", Body: dot}),
		alone(over(api.Star, n)),
		alone(over(api.Not, over(api.Alt, over(api.Seq, dot, n), dot))),
		alone(over(api.Seq, dot, dot, over(api.And, n))),
	} {
		if err := Right(g); err != want {
			t.Errorf("%+v: %v, not %v", g, err, want)
		}
		if text := Expr(g.Rules[len(g.Rules)/2].Body); (text == "") != (want != nil) {
			t.Errorf("%+v: %q", g, text)
		}
	}
}

// P5.1, with W5: a list without items is none; places are not looked at.
func TestEmptyListsAndPlaces(t *testing.T) {
	places := []int{0, -1, 7, api.MinInt, api.MaxInt}
	for _, at := range places {
		body := over(api.Seq, api.Node{Kind: api.Any, Subs: []api.Node{}, At: at}, api.Node{Kind: api.Ref, Text: "b", Subs: make([]api.Node, 0, 3), At: at})
		body.At = -at
		prints(t, ruled(api.Rule{Name: "a", Body: body, At: at}, api.Rule{Name: "b", At: at, Body: bare(api.Empty)}), "a <- . b\nb <- ()\n")
	}
	refuses(t, api.Grammar{}, api.ErrTree)
	refuses(t, api.Grammar{Rules: []api.Rule{}}, api.ErrTree)
	refuses(t, alone(api.Node{Kind: api.Seq, Subs: []api.Node{}}), api.ErrTree)
	refuses(t, alone(api.Node{Kind: api.Opt, Subs: make([]api.Node, 0, 1)}), api.ErrTree)
}

// P5.1: at most MaxRules rules, each with a name.
func TestRulesAndTheirNames(t *testing.T) {
	rule := api.Rule{Name: "a", Body: bare(api.Any)}
	for count := range 130 {
		g := ruled(slices.Repeat([]api.Rule{rule}, count)...)
		if count >= 1 && count <= 64 {
			prints(t, g, strings.Repeat("a <- .\n", count))
		} else {
			refuses(t, g, api.ErrTree)
		}
	}
	for _, name := range []string{"", "1", "1a", "a b", " a", "a ", "a-b", "é", "a\n", ".", "()", "a\x00", strings.Repeat("a", 33), strings.Repeat("a", api.MaxSource+1)} {
		refuses(t, ruled(api.Rule{Name: name, Body: bare(api.Any)}), api.ErrTree)
		refuses(t, ruled(rule, api.Rule{Name: name, Body: bare(api.Any)}, rule), api.ErrTree)
		refuses(t, alone(over(api.Seq, bare(api.Any), ref(name))), api.ErrTree)
	}
	for _, name := range []string{"a", "Z", "_", "a1", "z_Z9", strings.Repeat("_", 32)} {
		prints(t, ruled(rule, api.Rule{Name: name, Body: ref(name)}), "a <- .\n"+name+" <- "+name+"\n")
	}
}

// longBody is an expression with a text of so many bytes, all of it names and blanks.
func longBody(bytes int) api.Node {
	var subs []api.Node
	for bytes > 40 {
		subs = append(subs, ref(strings.Repeat("b", 20)))
		bytes -= 21
	}
	subs = append(subs, ref(strings.Repeat("c", bytes/2)), ref(strings.Repeat("d", bytes-1-bytes/2)))
	return over(api.Seq, subs...)
}

// P5.1, P5.2: a text of MaxSource bytes, its last line's end too, is one; a longer one is not.
func TestLengthOfTheText(t *testing.T) {
	for bytes := api.MaxSource - 30; bytes < api.MaxSource+30; bytes++ {
		n := longBody(bytes - len("a <- \n"))
		text, err := Print(alone(n))
		part := Expr(n)
		if bytes <= api.MaxSource {
			if err != nil || len(text) != bytes || "a <- "+part+"\n" != text {
				t.Error(bytes, len(text), len(part), err)
			}
			continue
		}
		refuses(t, alone(n), api.ErrLong)
		if part != "" {
			t.Error(bytes, len(part))
		}
	}
	line := api.Rule{Name: "a", Body: longBody(122)}
	g := ruled(slices.Repeat([]api.Rule{line}, 64)...)
	if text, err := Print(g); err != nil || len(text) != api.MaxSource {
		t.Error(len(text), err)
	}
	for i := range g.Rules {
		longer := ruled(slices.Clone(g.Rules)...)
		longer.Rules[i].Name = "ab"
		refuses(t, longer, api.ErrLong)
	}
	// A body for which a longer name leaves no room may still stand under one of one letter.
	widest := longBody(api.MaxSource - len("a <- \n"))
	refuses(t, ruled(api.Rule{Name: "ab", Body: widest}), api.ErrLong)
	if len(Expr(widest)) != api.MaxSource-len("a <- \n") {
		t.Error("no text under a name of one letter")
	}
}

// P5.1: each kind of piece may be the one too many.
func TestEachPieceMayBeTooMuch(t *testing.T) {
	const head = len("a <- \n")
	pieces := map[string]api.Node{"()": bare(api.Empty), ".": bare(api.Any), "'x'": lit("x"), "[a]": set(some), "b": ref("b"), "b?": over(api.Opt, ref("b")), "!b": over(api.Not, ref("b")), "(b c)": over(api.Seq, ref("b"), ref("c"))}
	for text, piece := range pieces {
		for more := range 2 {
			n := longBody(api.MaxSource - head - len(text) - 1 + more)
			g := alone(over(api.Seq, append(n.Subs, piece)...))
			if err := Right(g); (err == nil) != (more == 0) || more == 1 && err != api.ErrLong {
				t.Error(text, more, err)
			}
		}
	}
}

// P5.1: what is told first.
func TestOrderOfErrors(t *testing.T) {
	wrong := bare(0)
	long := longBody(api.MaxSource)
	deep := nested(api.Star, 26, bare(api.Any))
	refuses(t, alone(long), api.ErrLong)
	refuses(t, alone(deep), api.ErrTree)
	refuses(t, alone(over(api.Alt, long, wrong)), api.ErrTree)
	refuses(t, alone(over(api.Alt, deep, long)), api.ErrLong)
	refuses(t, alone(over(api.Alt, long, deep)), api.ErrLong)
	refuses(t, ruled(api.Rule{Name: "a", Body: long}, api.Rule{Name: "b", Body: wrong}), api.ErrTree)
	refuses(t, ruled(api.Rule{Name: "a", Body: long}, api.Rule{Name: "1", Body: deep}), api.ErrTree)
	refuses(t, ruled(api.Rule{Name: "a", Body: deep}, api.Rule{Name: "b", Body: long}), api.ErrLong)
	refuses(t, ruled(slices.Repeat([]api.Rule{{Name: "a", Body: long}}, 65)...), api.ErrTree)
	refuses(t, alone(nested(api.Star, api.MaxSource, bare(api.Any))), api.ErrLong)
	if Expr(wrong) != "" || Expr(long) != "" || Expr(deep) != "" {
		t.Error("a text of no tree")
	}
}

// P5.1, P5.2: MaxNest parentheses open at once, and one more.
func TestNestOfTheText(t *testing.T) {
	dot, empty := bare(api.Any), bare(api.Empty)
	choice := over(api.Alt, dot, dot)
	for _, kind := range []int{api.Opt, api.Star, api.Plus, api.And, api.Not} {
		// The outermost one stands in none: so many open parentheses as nodes less one.
		nests(t, nested(kind, 25, dot), nested(kind, 26, dot))
		nests(t, nested(kind, 24, empty), nested(kind, 25, empty))
		nests(t, nested(kind, 24, choice), nested(kind, 25, choice))
		nests(t, nested(kind, 23, over(api.Alt, dot, empty)), nested(kind, 24, over(api.Alt, dot, empty)))
	}
	// Within each other Not and Star open parentheses only where the Not is a part of the Star.
	nests(t, within(49, dot, api.Star, api.Not), within(51, dot, api.Star, api.Not))
	nests(t, within(50, dot, api.Star, api.Not), within(52, dot, api.Star, api.Not))
	rows, choices := dot, dot
	for range 25 {
		rows, choices = over(api.Seq, rows, dot), over(api.Alt, dot, choices)
	}
	nests(t, rows, over(api.Seq, dot, rows))
	nests(t, choices, over(api.Alt, choices, dot))
	// Those that stand side by side, or in another rule, are not open at once.
	side := nested(api.Star, 24, over(api.Seq, dot, dot))
	prints(t, ruled(api.Rule{Name: "a", Body: over(api.Seq, side, side, empty)}, api.Rule{Name: "b", Body: over(api.Alt, side, empty)}),
		"a <- "+Expr(side)+" "+Expr(side)+" ()\nb <- "+Expr(side)+" / ()\n")
	refuses(t, ruled(api.Rule{Name: "a", Body: dot}, api.Rule{Name: "b", Body: nested(api.Opt, 26, dot)}, api.Rule{Name: "c", Body: dot}), api.ErrTree)
	refuses(t, alone(over(api.Seq, nested(api.Opt, 26, dot), nested(api.Opt, 2, dot))), api.ErrTree)
	refuses(t, ruled(api.Rule{Name: "a", Body: nested(api.Opt, 26, dot)}, api.Rule{Name: "b", Body: empty}), api.ErrTree)
	// Those in literals and classes are none.
	if Expr(within(24, lit(strings.Repeat("(", 255)), api.Star)) == "" {
		t.Error("the bytes of a literal count")
	}
	prints(t, alone(over(api.Seq, slices.Repeat([]api.Node{lit("(")}, 30)...)), "a <- "+strings.TrimSpace(strings.Repeat("'(' ", 30))+"\n")
}

// nests holds the calls to one expression that is not too deep, and to one that is.
func nests(t *testing.T, fine, deep api.Node) {
	t.Helper()
	text := Expr(fine)
	if open := mostOpen(t, text); open != 24 || Right(alone(fine)) != nil {
		t.Errorf("%q: %d open", text, open)
	}
	refuses(t, alone(deep), api.ErrTree)
	if text := Expr(deep); text != "" {
		t.Errorf("%q", text)
	}
}

// mostOpen is how many parentheses of a text are open at once, at most.
func mostOpen(t *testing.T, text string) int {
	t.Helper()
	tokens, err := lex.Tokens(text)
	if err != nil {
		t.Fatal(err)
	}
	open, most := 0, 0
	for _, token := range tokens {
		switch {
		case token.Kind == api.TokSign && token.Text == "(":
			open++
			most = max(most, open)
		case token.Kind == api.TokSign && token.Text == ")":
			open--
		}
	}
	return most
}

// P5.1, with W1: trees far greater than a source.
func TestGreatTrees(t *testing.T) {
	refuses(t, alone(doubled(20, bare(api.Any))), api.ErrLong)
	refuses(t, alone(doubled(20, bare(0))), api.ErrTree)
	refuses(t, alone(over(api.Seq, doubled(20, bare(api.Any)), bare(0))), api.ErrTree)
	for _, kinds := range [][]int{{api.Star}, {api.Not}, {api.And, api.Plus}} {
		refuses(t, alone(within(1<<16-2, bare(api.Any), kinds...)), api.ErrLong)
		refuses(t, alone(within(1<<16-2, bare(13), kinds...)), api.ErrTree)
	}
	wide := over(api.Alt, slices.Repeat([]api.Node{bare(api.Empty)}, 1<<20)...)
	refuses(t, alone(wide), api.ErrLong)
	if Expr(wide) != "" {
		t.Error("a text longer than a source")
	}
	refuses(t, alone(lit(strings.Repeat("x", 1<<24))), api.ErrTree)
	refuses(t, ruled(make([]api.Rule, 1<<16)...), api.ErrTree)
}

// copied is a node in other memory.
func copied(n api.Node) api.Node {
	n.Text = strings.Clone(n.Text)
	subs := n.Subs
	n.Subs = make([]api.Node, 0, cap(subs))
	for _, sub := range subs[:cap(subs)] {
		n.Subs = append(n.Subs, copied(sub))
	}
	n.Subs = n.Subs[:len(subs)]
	if subs == nil {
		n.Subs = nil
	}
	return n
}

// shares tells whether two texts have a byte of memory in common.
func shares(s, t string) bool {
	from := func(s string) uintptr { return uintptr(unsafe.Pointer(unsafe.StringData(s))) }
	return s != "" && t != "" && from(s) < from(t)+uintptr(len(t)) && from(t) < from(s)+uintptr(len(s))
}

// P5.3, with W6.
func TestNothingIsChangedOrKept(t *testing.T) {
	spare := append(make([]api.Node, 0, 5), ref("name"), over(api.Not, lit("x'y")))
	_ = append(spare, bare(99), bare(98))
	body := api.Node{Kind: api.Alt, Subs: []api.Node{{Kind: api.Seq, Subs: spare, At: 9}, bare(api.Empty)}}
	rules := append(make([]api.Rule, 0, 3), api.Rule{Name: "some", Body: body, At: 4})
	_ = append(rules, api.Rule{Name: "other", Body: ref("q")})
	g := api.Grammar{Rules: rules}
	before := api.Rule{Name: "some", Body: copied(body), At: 4}
	beside := api.Rule{Name: "other", Body: ref("q")}
	const want = "some <- name !'x\\'y' / ()\n"
	text, err := Print(g)
	part := Expr(body)
	if err != nil || text != want || part != want[8:len(want)-1] || Right(g) != nil {
		t.Fatal(text, part, err)
	}
	if kept := rules[:2]; !reflect.DeepEqual(kept, []api.Rule{before, beside}) || !reflect.DeepEqual(spare[:4], before.Body.Subs[0].Subs[:4]) {
		t.Error("what is handed in has changed:", kept)
	}
	spare[0].Text, rules[0].Name = "changed", "new"
	spare[1] = bare(api.Any)
	if text != want {
		t.Error("an answer changes with what was handed in:", text)
	}
	prints(t, g, "new <- changed . / ()\n")
}

// P5.3, with W6: answers that look like what was handed in are not that.
func TestAnswersAreNewMemory(t *testing.T) {
	handed := []byte("name")
	name := unsafe.String(&handed[0], len(handed))
	part := Expr(ref(name))
	text, err := Print(ruled(api.Rule{Name: name, Body: ref(name)}))
	again, _ := Print(ruled(api.Rule{Name: name, Body: ref(name)}))
	if err != nil || part != "name" || shares(part, name) || shares(text, name) || shares(text, again) || shares(part, Expr(ref(name))) {
		t.Error("an answer shares memory:", part, text, err)
	}
	handed[0] = 'f'
	if part != "name" || text != "name <- name\n" || Expr(ref(name)) != "fame" {
		t.Error(part, text)
	}
}

// level is how tightly a kind binds its parts.
func level(kind int) int {
	return map[int]int{api.Alt: 1, api.Seq: 2, api.And: 3, api.Not: 3, api.Opt: 4, api.Star: 4, api.Plus: 4}[kind]
}

// judgedText is the text of an expression that is right, told by levels: a part stands in parentheses if it binds no tighter than what is above it.
func judgedText(n api.Node) string {
	var parts []string
	for _, sub := range n.Subs {
		part := judgedText(sub)
		if own := level(sub.Kind); own > 0 && own <= level(n.Kind) {
			part = "(" + part + ")"
		}
		parts = append(parts, part)
	}
	all := func(between string) string { return strings.Join(parts, between) }
	return [...]func() string{
		api.Empty: func() string { return "()" },
		api.Lit:   func() string { return lex.Quote(n.Text) },
		api.Set:   func() string { return class.Text(n.Class) },
		api.Any:   func() string { return "." },
		api.Ref:   func() string { return n.Text },
		api.Seq:   func() string { return all(" ") },
		api.Alt:   func() string { return all(" / ") },
		api.Opt:   func() string { return all("") + "?" },
		api.Star:  func() string { return all("") + "*" },
		api.Plus:  func() string { return all("") + "+" },
		api.And:   func() string { return "&" + all("") },
		api.Not:   func() string { return "!" + all("") },
	}[n.Kind]()
}

// drawn is a node with all that is in it but places.
func drawn(n api.Node) string {
	out := strconv.Itoa(n.Kind)
	if n.Text != "" {
		out += strconv.Quote(n.Text)
	}
	if n.Class != (api.Class{}) {
		out += class.Text(n.Class)
	}
	var subs []string
	for _, sub := range n.Subs {
		subs = append(subs, drawn(sub))
	}
	if len(subs) > 0 {
		out += "(" + strings.Join(subs, " ") + ")"
	}
	return out
}

// drawnGrammar is a grammar with all that is in it but places.
func drawnGrammar(g api.Grammar) string {
	out := ""
	for _, rule := range g.Rules {
		out += rule.Name + ": " + drawn(rule.Body) + "; "
	}
	return out
}

// checkTree holds the calls to the chapter at a grammar with whose nodes nothing is wrong; it tells what Right must say.
func checkTree(t *testing.T, g api.Grammar) error {
	t.Helper()
	want := ""
	for _, rule := range g.Rules {
		want += rule.Name + " <- " + judgedText(rule.Body) + "\n"
	}
	switch {
	case len(want) > api.MaxSource:
		refuses(t, g, api.ErrLong)
		return api.ErrLong
	case mostOpen(t, want) > api.MaxNest:
		refuses(t, g, api.ErrTree)
		return api.ErrTree
	}
	prints(t, g, want)
	again, err := syntax.Parse(want)
	if err != nil || drawnGrammar(again) != drawnGrammar(g) {
		t.Errorf("%q: %s %v, not %s", want, drawnGrammar(again), err, drawnGrammar(g))
		return nil
	}
	prints(t, again, want)
	return nil
}

// dice are numbers that look like chance, the same ones in every run.
type dice uint64

// roll is a number below n.
func (d *dice) roll(n int) int {
	*d = *d*6364136223846793005 + 1442695040888963407
	return int(*d>>33) % n
}

// node is a tree, up to so many nodes deep.
func (d *dice) node(deep int) api.Node {
	kind := 1 + d.roll(12)
	if deep == 0 {
		kind = 1 + d.roll(5)
	}
	n := api.Node{Kind: kind, At: d.roll(9)}
	switch {
	case kind == api.Lit:
		for range d.roll(3) * d.roll(3) {
			n.Text += string([]byte{byte(d.roll(256))})
		}
	case kind == api.Set:
		n.Class[d.roll(4)] = uint64(d.roll(1<<30)) << d.roll(33)
	case kind == api.Ref:
		n.Text = []string{"a", "bb", "c_1"}[d.roll(3)]
	case kind == api.Seq || kind == api.Alt:
		for range 2 + d.roll(2) {
			n.Subs = append(n.Subs, d.node(deep-1))
		}
	case kind > api.Alt:
		n.Subs = []api.Node{d.node(deep - 1)}
	}
	return n
}

// P5.1, P5.4: drawn trees, there and back.
func TestDrawnTrees(t *testing.T) {
	d := dice(5)
	told := map[error]int{}
	for n := range 6000 {
		g := api.Grammar{}
		for range 1 + d.roll(4) {
			g.Rules = append(g.Rules, api.Rule{Name: []string{"a", "b", "_c"}[d.roll(3)], Body: d.node(d.roll(3 + n%9))})
		}
		told[checkTree(t, g)]++
		body := g.Rules[0].Body
		if want := judgedText(body); len(want) <= api.MaxSource-6 && mostOpen(t, want) <= 24 && Expr(body) != want {
			t.Errorf("%q, not %q", Expr(body), want)
		}
	}
	for n := range 600 {
		told[checkTree(t, alone(within(15+d.roll(20), d.node(1+n%4), 8+d.roll(5), 8+d.roll(5), 8+d.roll(5))))]++
	}
	for range 100 {
		row := over(api.Seq)
		for range 700 {
			row.Subs = append(row.Subs, d.node(3))
		}
		told[checkTree(t, alone(row))]++
	}
	if told[nil] < 4000 || told[api.ErrLong] < 20 || told[api.ErrTree] < 80 {
		t.Error("few trees of a kind:", told)
	}
}

// P5.1, P5.4: all trees of few nodes.
func TestAllSmallTrees(t *testing.T) {
	leaves := []api.Node{bare(api.Empty), lit("x"), set(some), bare(api.Any), ref("b")}
	grown := func(from []api.Node) []api.Node {
		var out []api.Node
		for _, n := range from {
			for kind := api.Opt; kind <= api.Not; kind++ {
				out = append(out, over(kind, n))
			}
		}
		for _, n := range from {
			for _, m := range []api.Node{from[0], from[len(from)-1], leaves[4]} {
				out = append(out, over(api.Seq, n, m), over(api.Alt, n, m), over(api.Seq, m, n), over(api.Alt, m, n, m))
			}
		}
		return out
	}
	two := append(slices.Clone(leaves), grown(leaves)...)
	three := grown(two)
	for _, n := range append(two, append(three, grown(three)...)...) {
		checkTree(t, alone(n))
	}
}

// checkSource holds P5.4 at a source: what is read of it is a tree, printed and read again the same.
func checkSource(t *testing.T, s string) {
	t.Helper()
	g, err := syntax.Parse(s)
	if err != nil {
		return
	}
	checkTree(t, g)
}

// P5.4
func TestSourcesThereAndBack(t *testing.T) {
	for source, want := range map[string]string{
		"a<-":                               "a <- ()\n",
		"a<-(((b)))":                        "a <- b\n",
		"a<-((b/c)/d)((e f)g)":              "a <- ((b / c) / d) ((e f) g)\n",
		"a<-(()?)'' / !(b?) (!b)?":          "a <- ()? '' / !b? (!b)?\n",
		"a <- \"'\" . [^\\x00-z]":           "a <- '\\'' . [{-\\xff]\n",
		"a<-b# note\nb<-c/d/\n\tc<-'\\x41'": "a <- b\nb <- c / d / ()\nc <- 'A'\n",
		"a<-(b c)":                          "a <- b c\n",
		"a<-b(c)":                           "a <- b c\n",
		"a<-(b/c)":                          "a <- b / c\n",
		"a<-&(b*)!(c?)":                     "a <- &b* !c?\n",
	} {
		g := parsed(t, source)
		prints(t, g, want)
		checkTree(t, g)
	}
	// A source may be a tree's whose text is longer than a source.
	long := "a<-" + strings.Repeat("b/", 4000)
	refuses(t, parsed(t, long), api.ErrLong)
	// All parentheses of a source that are not needed are gone.
	full := "a <- " + strings.Repeat("(", 24) + "b" + strings.Repeat(")", 24)
	prints(t, parsed(t, full), "a <- b\n")
	deep := strings.Repeat("(", 24) + "b c" + strings.Repeat(")*", 24)
	prints(t, parsed(t, "a<-"+deep), "a <- "+deep+"\n")
	// The one tree that is read and may not be printed: an empty row is `()` in its text, which is one level more.
	rowless := strings.Repeat("(", 24) + "b/" + strings.Repeat(")*", 24)
	refuses(t, parsed(t, "a<-"+rowless), api.ErrTree)
}

func FuzzThereAndBack(f *testing.F) {
	for _, s := range []string{"a<-(('x'))/b*!(c d)b<-()/[a]", "a<-(b*)+&(!c)", "a<-((b/c)/d)((e f)g)", "a<-(()?)'' / !(b?) (!b)?", "a <- \"'\" . [^\\x00-z]", "a<-"} {
		f.Add(s)
	}
	f.Fuzz(checkSource)
}
