package scope

import (
	"reflect"
	"slices"
	"strconv"
	"strings"
	"testing"
	"unsafe"

	"muntin/api"
	"muntin/printer"
	"muntin/syntax"
)

func ref(s string) api.Node                    { return api.Node{Kind: api.Ref, Text: s} }
func refAt(s string, at int) api.Node          { return api.Node{Kind: api.Ref, Text: s, At: at} }
func bare(kind int) api.Node                   { return api.Node{Kind: kind} }
func over(kind int, subs ...api.Node) api.Node { return api.Node{Kind: kind, Subs: subs} }
func ruled(rules ...api.Rule) api.Grammar      { return api.Grammar{Rules: rules} }

// within is a node in so many others of a kind, each with it as its only part.
func within(deep, kind int, n api.Node) api.Node {
	for range deep {
		n = over(kind, n)
	}
	return n
}

// parsed is the tree of a source.
func parsed(t testing.TB, s string) api.Grammar {
	t.Helper()
	g, err := syntax.Parse(s)
	if err != nil {
		t.Fatal(s, err)
	}
	return g
}

// isError holds an error to its number and its place: -1, if it is none with a place.
func isError(t *testing.T, err error, code api.Errno, at int) {
	t.Helper()
	if api.Code(err) != code || api.At(err) != at {
		t.Errorf("%v, not %v at %d", err, code, at)
	}
	if at == -1 && err != code {
		t.Errorf("%v wraps an error", err)
	}
}

// refuses holds all calls to an error, with nothing beside it.
func refuses(t *testing.T, g api.Grammar, code api.Errno, at int) {
	t.Helper()
	isError(t, Check(g), code, at)
	uses, err := Uses(g)
	isError(t, err, code, at)
	if uses != nil {
		t.Error(uses, "beside an error")
	}
	for _, from := range []int{0, 1, -1, len(g.Rules), api.MinInt, api.MaxInt} {
		reach, err := Reach(g, from)
		isError(t, err, code, at)
		if reach != nil {
			t.Error(reach, "beside an error")
		}
	}
	pruned, err := Prune(g)
	isError(t, err, code, at)
	if pruned.Rules != nil {
		t.Error(pruned, "beside an error")
	}
}

// leads holds all calls to what the rules of a grammar lead to, told as rows of places.
func leads(t *testing.T, g api.Grammar, uses, reach [][]int) {
	t.Helper()
	if err := Check(g); err != nil {
		t.Error(err)
	}
	got, err := Uses(g)
	if err != nil || !slices.EqualFunc(got, uses, slices.Equal[[]int]) {
		t.Errorf("uses %v %v, not %v", got, err, uses)
	}
	for from, want := range reach {
		if got, err := Reach(g, from); err != nil || !slices.Equal(got, want) {
			t.Errorf("from %d: %v %v, not %v", from, got, err, want)
		}
	}
	isPruned(t, g, reach[0])
}

// isPruned holds Prune to the rules at some places.
func isPruned(t *testing.T, g api.Grammar, places []int) {
	t.Helper()
	var want api.Grammar
	for _, place := range places {
		want.Rules = append(want.Rules, g.Rules[place])
	}
	got, err := Prune(g)
	if err != nil || drawnGrammar(got) != drawnGrammar(want) {
		t.Errorf("pruned %s %v, not %s", drawnGrammar(got), err, drawnGrammar(want))
	}
}

// drawnNode is a node with all that is in it.
func drawnNode(n api.Node) string {
	out := strconv.Itoa(n.Kind) + strconv.Quote(n.Text) + "@" + strconv.Itoa(n.At)
	for _, word := range n.Class {
		out += "," + strconv.FormatUint(word, 16)
	}
	for _, sub := range n.Subs {
		out += "(" + drawnNode(sub) + ")"
	}
	return out
}

// drawnGrammar is a grammar with all that is in it.
func drawnGrammar(g api.Grammar) string {
	out := ""
	for _, rule := range g.Rules {
		out += rule.Name + "@" + strconv.Itoa(rule.At) + ": " + drawnNode(rule.Body) + "; "
	}
	return out
}

// P6.1, P6.3
func TestExamplesOfTheChapter(t *testing.T) {
	g := parsed(t, "a <- b c b <- c / b c <- . d <- a")
	leads(t, g, [][]int{{1, 2}, {1, 2}, {}, {0}}, [][]int{{0, 1, 2}, {1, 2}, {2}, {0, 1, 2, 3}})
	pruned, err := Prune(g)
	text, _ := printer.Print(pruned)
	if err != nil || text != "a <- b c\nb <- c / b\nc <- .\n" {
		t.Error(text, err)
	}
	refuses(t, parsed(t, "a <- . a <- b"), api.ErrDouble, 7)
	refuses(t, parsed(t, "a <- x / y"), api.ErrName, 5)
}

// P6.1: Right's error is told first, and has no place.
func TestNoTreeIsRefused(t *testing.T) {
	dot := bare(api.Any)
	long := over(api.Seq, slices.Repeat([]api.Node{ref("a")}, api.MaxSource)...)
	deep := within(26, api.Star, dot)
	for _, x := range []struct {
		g    api.Grammar
		want api.Errno
	}{
		{api.Grammar{}, api.ErrTree},
		{api.Grammar{Rules: []api.Rule{}}, api.ErrTree},
		{ruled(api.Rule{Name: "a"}), api.ErrTree},
		{ruled(api.Rule{Name: "1", Body: dot}), api.ErrTree},
		{ruled(api.Rule{Name: "a", Body: dot}, api.Rule{Name: "a", Body: bare(13)}), api.ErrTree},
		{ruled(api.Rule{Name: "a", Body: ref("b")}, api.Rule{Name: "c", Body: over(api.Opt)}), api.ErrTree},
		{ruled(api.Rule{Name: "a", Body: ref("")}), api.ErrTree},
		{ruled(api.Rule{Name: "a", Body: ref("a b")}), api.ErrTree},
		{ruled(api.Rule{Name: "a", Body: deep}), api.ErrTree},
		{ruled(api.Rule{Name: "a", Body: dot}, api.Rule{Name: "a", Body: deep}), api.ErrTree},
		{ruled(api.Rule{Name: "a", Body: long}), api.ErrLong},
		{ruled(api.Rule{Name: "a", Body: long}, api.Rule{Name: "a", Body: ref("x")}), api.ErrLong},
		{ruled(api.Rule{Name: "a", Body: within(1<<16-2, api.Not, dot)}), api.ErrLong},
		{ruled(slices.Repeat([]api.Rule{{Name: "a", Body: dot}}, 65)...), api.ErrTree},
	} {
		if err := printer.Right(x.g); err != x.want {
			t.Error(err, "is Right's, not", x.want)
		}
		refuses(t, x.g, x.want, -1)
	}
}

// P6.1: the first rule whose name an earlier one has, at its own place, ahead of all names that are no rule's.
func TestDoubleNames(t *testing.T) {
	for source, at := range map[string]int{
		"a <- . a <- .":                      7,
		"a <- x a <- y":                      7,
		"a <- . b <- . b <- . a <- .":        14,
		"a <- . b <- . a <- . b <- .":        14,
		"a <- . a <- . a <- .":               7,
		"b <- x c <- b a <- c c <- b":        21,
		"a <- .  # a note\n\n\tab <- . a<-.": 27,
		"A <- . a <- . _ <- . a <- A A <- _": 21,
	} {
		refuses(t, parsed(t, source), api.ErrDouble, at)
	}
	for _, at := range []int{0, -1, -7, 1 << 40, api.MinInt, api.MaxInt} {
		g := ruled(api.Rule{Name: "a", Body: refAt("x", 3), At: 5}, api.Rule{Name: "a", Body: refAt("y", 4), At: at})
		err := Check(g)
		if api.Code(err) != api.ErrDouble || api.At(err) != at {
			t.Error(err)
		}
	}
	// Names that differ in their last byte, in case or in length are different ones.
	long := strings.Repeat("n", 31)
	g := parsed(t, long+"a <- . "+long+"b <- . "+long+" <- . "+strings.ToUpper(long)+" <- .")
	leads(t, g, [][]int{{}, {}, {}, {}}, [][]int{{0}, {1}, {2}, {3}})
}

// P6.1: the first Ref whose name is no rule's, from the front, rule by rule.
func TestUnknownNames(t *testing.T) {
	for source, at := range map[string]int{
		"a <- a b <- (a c)":             15,
		"a <- b b <- c c <- d":          19,
		"a <- x b <- y":                 5,
		"b <- . a <- b b1":              14,
		"a <- a / ('x' (a y)* / z)":     17,
		"a <- !x &y":                    6,
		"a <- x? y* z+":                 5,
		"a <- (a / x) y":                10,
		"a <- a A":                      7,
		"a <- ((((x)))) y":              9,
		"a <- . b <- 'b' c / . c <- cc": 27,
		"aa <- a":                       6,
	} {
		refuses(t, parsed(t, source), api.ErrName, at)
	}
	// The order is that of the tree, not that of the places.
	for _, at := range []int{0, -1, 99, api.MinInt, api.MaxInt} {
		g := ruled(
			api.Rule{Name: "a", At: 90, Body: over(api.Alt, over(api.Seq, bare(api.Any), refAt("a", 1)), over(api.Not, refAt("x", at)), refAt("y", 2))},
			api.Rule{Name: "b", At: 80, Body: refAt("z", 1)})
		err := Check(g)
		if api.Code(err) != api.ErrName || api.At(err) != at {
			t.Error(err)
		}
	}
}

// P6.1: what is no Ref is no use of a name.
func TestTextsThatAreNoNames(t *testing.T) {
	leads(t, parsed(t, "a <- 'b' [b] . () b <- 'zz' / \"a\""), [][]int{{}, {}}, [][]int{{0}, {1}})
}

// P6.2
func TestFind(t *testing.T) {
	g := parsed(t, "a <- b b <- c c <- . bb <- .")
	for name, want := range map[string]int{"a": 0, "b": 1, "c": 2, "bb": 3, "z": -1, "": -1, "A": -1, "a ": -1, "bbb": -1, "a\x00": -1} {
		if got := Find(g, name); got != want {
			t.Errorf("%q: %d, not %d", name, got, want)
		}
	}
}

// P6.2: of any grammar, and the first of several.
func TestFindInAnyGrammar(t *testing.T) {
	g := ruled(api.Rule{Name: "x"}, api.Rule{Name: "1 2", Body: bare(99)}, api.Rule{Name: "x", Body: ref("nobody")}, api.Rule{}, api.Rule{Name: "1 2"}, api.Rule{Name: "\xff\n"})
	for name, want := range map[string]int{"x": 0, "1 2": 1, "": 3, "\xff\n": 5, "nobody": -1} {
		if got := Find(g, name); got != want {
			t.Errorf("%q: %d, not %d", name, got, want)
		}
	}
	if Find(api.Grammar{}, "") != -1 || Find(api.Grammar{Rules: []api.Rule{}}, "a") != -1 {
		t.Error("a rule of none")
	}
	many := ruled(make([]api.Rule, 1<<16)...)
	many.Rules[1<<16-1].Name = strings.Repeat("n", 1<<16)
	many.Rules[1<<15].Body = within(1<<16-2, api.Star, bare(0))
	if Find(many, strings.Repeat("n", 1<<16)) != 1<<16-1 || Find(many, "") != 0 || Find(many, "n") != -1 {
		t.Error("of many rules")
	}
}

// P6.3: a Ref counts wherever it stands in the body.
func TestUsesAtAllPlaces(t *testing.T) {
	for body, want := range map[string][]int{
		"b":                         {1},
		"b c d":                     {1, 2, 3},
		"d / c / b":                 {1, 2, 3},
		"d b d b d":                 {1, 3},
		"b? c* d+":                  {1, 2, 3},
		"&b !d":                     {1, 3},
		"(b / c) d":                 {1, 2, 3},
		"'b' a":                     {0},
		"a a / a":                   {0},
		"!(. / (d a)*)? b":          {0, 1, 3},
		"()":                        {},
		". [b] 'c'":                 {},
		"((((((((c))))))))*":        {2},
		"c / (c (c / (c (c d)+)?))": {2, 3},
	} {
		g := parsed(t, "a <- "+body+" b <- . c <- . d <- .")
		uses, err := Uses(g)
		if err != nil || len(uses) != 4 || !slices.Equal(uses[0], want) || len(uses[1])+len(uses[2])+len(uses[3]) != 0 {
			t.Error(body, uses, err)
		}
	}
}

// P6.3
func TestReachAndPrune(t *testing.T) {
	for _, x := range []struct {
		source      string
		uses, reach [][]int
	}{
		{"a <- .", [][]int{{}}, [][]int{{0}}},
		{"a <- a", [][]int{{0}}, [][]int{{0}}},
		{"a <- b b <- a", [][]int{{1}, {0}}, [][]int{{0, 1}, {0, 1}}},
		{"a <- . b <- a", [][]int{{}, {0}}, [][]int{{0}, {0, 1}}},
		{"a <- c b <- . c <- .", [][]int{{2}, {}, {}}, [][]int{{0, 2}, {1}, {2}}},
		{"a <- d b <- . c <- b d <- c", [][]int{{3}, {}, {1}, {2}}, [][]int{{0, 1, 2, 3}, {1}, {1, 2}, {1, 2, 3}}},
		{"a <- e b <- b c <- a d <- d e <- d", [][]int{{4}, {1}, {0}, {3}, {3}}, [][]int{{0, 3, 4}, {1}, {0, 2, 3, 4}, {3}, {3, 4}}},
		{"a <- . b <- c c <- d d <- b", [][]int{{}, {2}, {3}, {1}}, [][]int{{0}, {1, 2, 3}, {1, 2, 3}, {1, 2, 3}}},
		{"a <- 'b' 'c' b <- c c <- .", [][]int{{}, {2}, {}}, [][]int{{0}, {1, 2}, {2}}},
	} {
		leads(t, parsed(t, x.source), x.uses, x.reach)
	}
}

// P6.3: what is no rule's place.
func TestReachFromNowhere(t *testing.T) {
	for _, source := range []string{"a <- .", "a <- b b <- .", "a <- a b <- a c <- b"} {
		g := parsed(t, source)
		for _, from := range []int{-1, -2, len(g.Rules), len(g.Rules) + 1, 1 << 32, -1 << 32, api.MinInt, api.MaxInt} {
			reach, err := Reach(g, from)
			isError(t, err, api.ErrArg, -1)
			if reach != nil {
				t.Error(reach, "beside an error")
			}
		}
		if reach, err := Reach(g, len(g.Rules)-1); err != nil || len(reach) != len(g.Rules) && len(g.Rules) != 2 {
			t.Error(reach, err)
		}
	}
	// Check's error is told first.
	_, err := Reach(parsed(t, "a <- x"), 7)
	isError(t, err, api.ErrName, 5)
	_, err = Reach(parsed(t, "a <- . a <- ."), -1)
	isError(t, err, api.ErrDouble, 7)
	_, err = Reach(api.Grammar{}, -1)
	isError(t, err, api.ErrTree, -1)
}

// name is one of a rule, for each place another one.
func name(place int) string { return "r" + strconv.Itoa(place) }

// P6.3: at MaxRules rules, in rows, rings and with all uses.
func TestMostRules(t *testing.T) {
	var row, ring, full, back api.Grammar
	var all []int
	for i := range api.MaxRules {
		all = append(all, i)
		next := api.Node{Kind: api.Empty}
		if i+1 < api.MaxRules {
			next = ref(name(i + 1))
		}
		row.Rules = append(row.Rules, api.Rule{Name: name(i), Body: next})
		ring.Rules = append(ring.Rules, api.Rule{Name: name(i), Body: ref(name((i + 1) % api.MaxRules))})
		back.Rules = append(back.Rules, api.Rule{Name: name(i), Body: ref(name(max(i-1, 0)))})
		body := over(api.Seq, ref(name(63-i)), ref(name(i)))
		for _, place := range []int{5, 3, 62, 0, 31, 7} {
			body.Subs = append(body.Subs, ref(name(place)))
		}
		full.Rules = append(full.Rules, api.Rule{Name: name(i), Body: over(api.Star, body)})
	}
	for from := range api.MaxRules {
		isReach(t, row, from, all[from:])
		isReach(t, ring, from, all)
		isReach(t, back, from, all[:from+1])
	}
	isPruned(t, row, all)
	isPruned(t, ring, all)
	isPruned(t, back, all[:1])
	uses, err := Uses(full)
	if err != nil || len(uses) != 64 || !slices.Equal(uses[1], []int{0, 1, 3, 5, 7, 31, 62}) || !slices.Equal(uses[20], []int{0, 3, 5, 7, 20, 31, 43, 62}) {
		t.Error(uses, err)
	}
	checkGrammar(t, full)
}

// isReach holds Reach to some places.
func isReach(t *testing.T, g api.Grammar, from int, want []int) {
	t.Helper()
	if got, err := Reach(g, from); err != nil || !slices.Equal(got, want) {
		t.Errorf("from %d: %v %v, not %v", from, got, err, want)
	}
}

// P6.3: a rule that is kept stays as it is, to the last field.
func TestPrunedRulesAsTheyAre(t *testing.T) {
	body := api.Node{Kind: api.Alt, At: -3, Subs: []api.Node{
		{Kind: api.Lit, Text: "\x00x'", At: api.MinInt},
		{Kind: api.Set, Class: api.Class{1, 2, 3, 1 << 63}, At: api.MaxInt},
		{Kind: api.Seq, At: 6, Subs: []api.Node{refAt("z", 17), {Kind: api.Plus, Subs: []api.Node{{Kind: api.Any, At: 4}}}, {Kind: api.Lit}}},
		{Kind: api.Empty, At: 1, Subs: []api.Node{}},
	}}
	g := ruled(api.Rule{Name: "a", Body: body, At: 40}, api.Rule{Name: "y", Body: refAt("z", 2), At: 5}, api.Rule{Name: "z", Body: refAt("a", 9), At: -8})
	isPruned(t, g, []int{0, 2})
	// No rule moves ahead of another one, however they use each other.
	g = ruled(api.Rule{Name: "a", Body: ref("d")}, api.Rule{Name: "b", Body: bare(api.Any)}, api.Rule{Name: "c", Body: ref("b")}, api.Rule{Name: "d", Body: ref("c")}, api.Rule{Name: "e", Body: ref("a")})
	isPruned(t, g, []int{0, 1, 2, 3})
}

// span is a piece of memory.
type span struct{ from, to uintptr }

// stretch is the memory of a list, its spare room too.
func stretch[T any](list []T) span {
	list = list[:cap(list)]
	from := uintptr(unsafe.Pointer(unsafe.SliceData(list)))
	return span{from, from + uintptr(len(list))*unsafe.Sizeof(*new(T))}
}

// letters is the memory of a text.
func letters(s string) span {
	from := uintptr(unsafe.Pointer(unsafe.StringData(s)))
	return span{from, from + uintptr(len(s))}
}

// memory is that of all lists and texts of a grammar.
func memory(g api.Grammar) []span {
	out := []span{stretch(g.Rules)}
	var visit func(n api.Node)
	visit = func(n api.Node) {
		out = append(out, letters(n.Text), stretch(n.Subs))
		for _, sub := range n.Subs {
			visit(sub)
		}
	}
	for _, rule := range g.Rules {
		out = append(out, letters(rule.Name))
		visit(rule.Body)
	}
	return out
}

// meet tells whether two of these pieces have a byte in common.
func meet(spans []span) bool {
	spans = slices.DeleteFunc(slices.Clone(spans), func(s span) bool { return s.from == s.to })
	slices.SortFunc(spans, func(s, t span) int { return int(int64(s.from) - int64(t.from)) })
	for i := range spans[1:] {
		if spans[i].to > spans[i+1].from {
			return true
		}
	}
	return false
}

// P6.4, with W6.
func TestAnswersAreNewMemory(t *testing.T) {
	source := []byte("start <- other 'text' (other / [x])* rest <- start other <- start ('longer' .)? rest")
	g := parsed(t, string(source))
	// Nodes that are handed in may share their parts: those that are answered do not.
	g.Rules[1].Body = over(api.Alt, g.Rules[0].Body, over(api.Not, g.Rules[0].Body))
	handed := memory(g)
	pruned, err := Prune(g)
	again, _ := Prune(g)
	if err != nil || drawnGrammar(pruned) != drawnGrammar(g) {
		t.Fatal(drawnGrammar(pruned), err)
	}
	both := append(memory(pruned), memory(again)...)
	if meet(both) {
		t.Error("answers share memory")
	}
	for _, piece := range handed {
		if piece.from != piece.to && meet(append(slices.Clone(both), piece)) {
			t.Error("an answer shares memory with what was handed in")
		}
	}
	uses, _ := Uses(g)
	more, _ := Uses(g)
	reach, _ := Reach(g, 0)
	lists := []span{stretch(uses), stretch(more), stretch(reach)}
	for i := range uses {
		lists = append(lists, stretch(uses[i]), stretch(more[i]))
	}
	if meet(lists) {
		t.Error("lists share memory")
	}
}

// P6.4: what is handed in, its spare room too, is as it was; what was answered does not change with it.
func TestNothingIsChangedOrKept(t *testing.T) {
	spare := append(make([]api.Node, 0, 5), refAt("b", 3), over(api.Star, ref("a")))
	_ = append(spare, bare(99), ref("c"))
	rules := append(make([]api.Rule, 0, 4), api.Rule{Name: "a", Body: over(api.Seq, spare...), At: 2}, api.Rule{Name: "b", Body: ref("b"), At: 1}, api.Rule{Name: "c", Body: bare(api.Any)})
	rules[0].Body.Subs = spare
	_ = append(rules, api.Rule{Name: "d", Body: ref("q")})
	g := api.Grammar{Rules: rules}
	look := func() string {
		return drawnGrammar(api.Grammar{Rules: rules[:4]}) + drawnNode(over(api.Seq, spare[:5]...))
	}
	before := look()
	pruned, err := Prune(g)
	uses, _ := Uses(g)
	reach, _ := Reach(g, 0)
	if err != nil || Check(g) != nil || Find(g, "c") != 2 || look() != before {
		t.Fatal("what is handed in has changed:", look(), err)
	}
	want := drawnGrammar(pruned)
	spare[0].Text, rules[1].Name, spare[1].Subs[0].Text = "c", "e", "e"
	rules[0].Body.At = 77
	if drawnGrammar(pruned) != want || !reflect.DeepEqual(uses, [][]int{{0, 1}, {1}, nil}) || !slices.Equal(reach, []int{0, 1}) {
		t.Error("an answer changes with what was handed in")
	}
	if Find(g, "b") != -1 || Find(g, "e") != 1 {
		t.Error("a name is kept")
	}
	pruned.Rules[0].Body.Subs[0].Text = "none"
	uses[0][0] = 9
	refuses(t, g, api.ErrName, 0)
}

// P6.1, with W4: an error is made anew, so that nobody's change of it is seen.
func TestErrorsAreNew(t *testing.T) {
	for _, source := range []string{"a <- x", "a <- . a <- ."} {
		g := parsed(t, source)
		one, two := Check(g).(*api.Fault), Check(g).(*api.Fault)
		if one == two || *one != *two {
			t.Error(one, two)
		}
	}
}

// judgedFault is what Check must answer of a tree, told by looking at each pair of rules, then at each name in the text.
func judgedFault(g api.Grammar) api.Fault {
	for j := range g.Rules {
		for i := range j {
			if g.Rules[i].Name == g.Rules[j].Name {
				return api.Fault{Code: api.ErrDouble, At: g.Rules[j].At}
			}
		}
	}
	for _, rule := range g.Rules {
		stack := []api.Node{rule.Body}
		for len(stack) > 0 {
			n := stack[len(stack)-1]
			stack = stack[:len(stack)-1]
			isNamed := func(rule api.Rule) bool { return rule.Name == n.Text }
			if n.Kind == api.Ref && !slices.ContainsFunc(g.Rules, isNamed) {
				return api.Fault{Code: api.ErrName, At: n.At}
			}
			back := slices.Clone(n.Subs)
			slices.Reverse(back)
			stack = append(stack, back...)
		}
	}
	return api.Fault{At: -1}
}

// judgedUses tells for each two rules whether one uses the other: its name is a word of the other's text.
func judgedUses(g api.Grammar) [][]bool {
	out := make([][]bool, len(g.Rules))
	for i, rule := range g.Rules {
		out[i] = make([]bool, len(g.Rules))
		words := strings.FieldsFunc(drawnNode(rule.Body), func(r rune) bool { return r == '(' || r == ')' })
		for j, other := range g.Rules {
			head := strconv.Itoa(api.Ref) + strconv.Quote(other.Name) + "@"
			out[i][j] = slices.ContainsFunc(words, func(word string) bool { return strings.HasPrefix(word, head) })
		}
	}
	return out
}

// closed is to which rules each one leads: as long as there is a way by a rule in between, it is one.
func closed(uses [][]bool) [][]bool {
	out := make([][]bool, len(uses))
	for i := range uses {
		out[i] = slices.Clone(uses[i])
	}
	for by := range out {
		for i := range out {
			for j := range out {
				out[i][j] = out[i][j] || out[i][by] && out[by][j]
			}
		}
	}
	return out
}

// places are those at which a row says yes.
func places(row []bool) []int {
	var out []int
	for i, yes := range row {
		if yes {
			out = append(out, i)
		}
	}
	return out
}

// checkGrammar holds all calls to the chapter at a tree, and tells what is wrong with it.
func checkGrammar(t *testing.T, g api.Grammar) api.Errno {
	t.Helper()
	if fault := judgedFault(g); fault.Code != api.OK {
		refuses(t, g, fault.Code, fault.At)
		return fault.Code
	}
	uses := judgedUses(g)
	var used, reach [][]int
	for i, row := range closed(uses) {
		row[i] = true
		used = append(used, places(uses[i]))
		reach = append(reach, places(row))
	}
	leads(t, g, used, reach)
	isClosed(t, g)
	return api.OK
}

// isClosed holds what follows: a Reach has what its rules use; what is pruned stays so, and is all in its Reach of 0.
func isClosed(t *testing.T, g api.Grammar) {
	t.Helper()
	uses, _ := Uses(g)
	for from := range g.Rules {
		reach, _ := Reach(g, from)
		if !slices.Contains(reach, from) {
			t.Error(reach, "is without", from)
		}
		for _, place := range reach {
			for _, next := range uses[place] {
				if !slices.Contains(reach, next) {
					t.Error(reach, "is without", next)
				}
			}
		}
	}
	pruned, err := Prune(g)
	again, err2 := Prune(pruned)
	reach, err3 := Reach(pruned, 0)
	if err != nil || err2 != nil || err3 != nil || drawnGrammar(pruned) != drawnGrammar(again) || len(reach) != len(pruned.Rules) {
		t.Error(drawnGrammar(pruned), drawnGrammar(again), reach, err, err2, err3)
	}
}

// dice are numbers that look like chance, the same ones in every run.
type dice uint64

// roll is a number below n.
func (d *dice) roll(n int) int {
	*d = *d*6364136223846793005 + 1442695040888963407
	return int(*d>>33) % n
}

// node is a tree, up to so many nodes deep, of names of rules up to a number.
func (d *dice) node(deep, names int) api.Node {
	kind := 1 + d.roll(12)
	if deep == 0 {
		kind = 1 + d.roll(5)
	}
	n := api.Node{Kind: kind, At: d.roll(900)}
	switch {
	case kind == api.Lit:
		n.Text = name(d.roll(names))
	case kind == api.Set:
		n.Class[d.roll(4)] = uint64(d.roll(1 << 30))
	case kind == api.Ref:
		n.Text = name(d.roll(names))
	case kind == api.Seq || kind == api.Alt:
		for range 2 + d.roll(2) {
			n.Subs = append(n.Subs, d.node(deep-1, names))
		}
	case kind > api.Alt:
		n.Subs = []api.Node{d.node(deep-1, names)}
	}
	return n
}

// P6.1, P6.3, P6.5: drawn grammars, against the chapter told another way.
func TestDrawnGrammars(t *testing.T) {
	d := dice(6)
	told := map[api.Errno]int{}
	for n := range 6000 {
		g, count := api.Grammar{}, 1+d.roll(8)
		names := count
		if n%3 == 0 {
			names++
		}
		for i := range count {
			rule := api.Rule{Name: name(i), Body: d.node(d.roll(4), names), At: d.roll(900)}
			if d.roll(40) == 0 {
				rule.Name = name(d.roll(count))
			}
			g.Rules = append(g.Rules, rule)
		}
		told[checkGrammar(t, g)]++
	}
	if told[api.OK] < 2000 || told[api.ErrDouble] < 200 || told[api.ErrName] < 300 {
		t.Error("few grammars of a kind:", told)
	}
}

// P6.3, P6.5: all grammars of three rules, whichever use each other.
func TestAllUsesOfThreeRules(t *testing.T) {
	for bits := range 1 << 9 {
		g := api.Grammar{}
		for i := range 3 {
			body := over(api.Alt, bare(api.Any), bare(api.Empty))
			for j := range 3 {
				if bits>>(3*i+j)&1 == 1 {
					body.Subs = append([]api.Node{ref(name(j))}, body.Subs...)
				}
			}
			g.Rules = append(g.Rules, api.Rule{Name: name(i), Body: body, At: i})
		}
		if code := checkGrammar(t, g); code != api.OK {
			t.Error(bits, code)
		}
	}
}

// checkSource holds all calls to the chapter at a source's tree.
func checkSource(t *testing.T, s string) {
	g, err := syntax.Parse(s)
	if err != nil || printer.Right(g) != nil {
		return
	}
	for _, rule := range g.Rules {
		if Find(g, rule.Name) < 0 {
			t.Error("no rule", rule.Name)
		}
	}
	checkGrammar(t, g)
}

func FuzzScope(f *testing.F) {
	for _, s := range []string{"a <- b c b <- c / b c <- . d <- a", "a <- . a <- b", "a <- x / y", "a <- a b <- (a c)", "a<-(b)*!b b<-a/'c'", "a<-"} {
		f.Add(s)
	}
	f.Fuzz(checkSource)
}
